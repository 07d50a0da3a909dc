"""Rulebooks read from texts."""

from goneyet.dials import GREATEST_NUMBERS, LEAST_NUMBERS, OWN_WORDS
from goneyet.errors import NoText, Wrong
from goneyet.forms import is_name
from goneyet.rulebooks import KIND_WORDS, MOST_GROUNDS, ROW_WORDS, in_order, made_kind
from goneyet.words import number_shown, words_of

MOST_NEEDS = 3


def numbers_from(words, wanted):
    """The numbers behind the wanted words, a list; None if the words are no such line."""
    if len(words) != 2 * len(wanted):
        return None
    numbers = []
    for k, word in enumerate(wanted):
        number = number_shown(words[2 * k + 1], LEAST_NUMBERS[word], GREATEST_NUMBERS[word])
        if words[2 * k] != word or number is None:
            return None
        numbers.append(number)
    return numbers


def _need_from(words):
    """The need that some words show; None if they show none."""
    wanted = ROW_WORDS if words[0] == "row" else KIND_WORDS
    numbers = numbers_from(words[2:], wanted)
    if numbers is None or not is_name(words[1]):
        return None
    return (words[0], words[1]) + tuple(numbers)


def needs_from(words):
    """The list of the needs that the words behind `from` show; None if they show no such list."""
    sizes = {"row": 2 + 2 * len(ROW_WORDS), "kind": 2 + 2 * len(KIND_WORDS)}
    needs = []
    start = 0
    while start < len(words) and words[start] in sizes:
        # A name may be the word `and`, so that only the sizes of needs tell where one ends.
        end = start + sizes[words[start]]
        needs.append(_need_from(words[start:end]))
        if end >= len(words):
            return None if None in needs else needs
        if words[end] != "and":
            return None
        start = end + 1
    return None


class Draft:
    """What the lines of a text have told so far; named are the kinds with a line in the text."""

    def __init__(self, named):
        self.named = named
        self.rows = []
        self.kinds = []

    def take(self, words):
        """Take the words of a line that is not skipped; tells whether it is a good one."""
        if not self.rows:
            return self.take_rows(words)
        if words[0] == "kind":
            return self.take_kind(words)
        return words[0] == "from" and self.take_ground(words)

    def take_rows(self, words):
        """Take the line of the rows."""
        rows = words[1:]
        if words[0] != "rows" or len(set(rows)) != len(rows) or not all([is_name(row) for row in rows]):
            return False
        self.rows = rows
        return len(rows) > 0

    def take_kind(self, words):
        """Take the line of a kind."""
        numbers = numbers_from(words[2:], OWN_WORDS)
        if numbers is None or not is_name(words[1]):
            return False
        if words[1] in [name for name, _, _, _ in self.kinds]:
            return False
        self.kinds.append((words[1], numbers[0], numbers[1], []))
        return True

    def take_ground(self, words):
        """Take the line of a ground of the last kind."""
        needs = needs_from(words[1:])
        if needs is None or not self.kinds or len(needs) > MOST_NEEDS:
            return False
        if not all([need[1] in (self.rows if need[0] == "row" else self.named) for need in needs]):
            return False
        ground = in_order(needs)
        grounds = self.kinds[-1][3]
        if len(ground) < len(needs) or len(grounds) == MOST_GROUNDS or ground in grounds:
            return False
        grounds.append(ground)
        return True


def read_rulebook(text):
    """The rulebook that a text shows; NoText with the first bad line if it shows none."""
    if not isinstance(text, str):
        raise Wrong(0)
    lines = [words_of(line.partition("#")[0]) for line in text.split("\n")]
    draft = Draft([words[1] for words in lines if len(words) > 1 and words[0] == "kind"])
    for k, words in enumerate(lines):
        if words and not draft.take(words):
            raise NoText(k)
    if not draft.kinds:
        raise NoText(len(lines))
    kinds = [made_kind(name, keep, bar, grounds) for name, keep, bar, grounds in draft.kinds]
    return (in_order(draft.rows), tuple(sorted(kinds)))
