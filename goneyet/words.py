"""Words of texts, and the numbers that they show."""


def words_of(line):
    """The list of the words of a line; blanks alone stand between words."""
    return [word for word in line.split(" ") if word != ""]


def number_shown(word, low, high):
    """The number from low to high that a word shows as Python shows it; None if there is none."""
    for number in range(low, high + 1):
        if word == str(number):
            return number
    return None


def is_digits(word):
    """Whether a word is one to nine digits, without a needless zero."""
    if not 1 <= len(word) <= 9 or not all(["0" <= sign <= "9" for sign in word]):
        return False
    return word == "0" or word[0] != "0"


def integer_shown(word):
    """The integer of at most nine digits that a word shows without needless signs; None if none."""
    if is_digits(word):
        return int(word)
    if word[0:1] == "-" and is_digits(word[1:]) and word != "-0":
        return -int(word[1:])
    return None
