"""Choices: the ways in which OLD answers are made.

A choice of a kind is a tuple (index, place, counted): the index of a live
ground; None, if the ground has forced needs, otherwise the place of one of its
needs on able kinds; and the tuple of the needs that count, with their places:
all the forced ones, or this one. An OLD answer is made exactly by a choice
whose counted needs are all met by what is OLD. Kinds that are not able have none.
"""

from goneyet.sorts import able_kinds, clean_kinds, live_indexes, old_places


def choices_by(index, ground, word, places):
    """The choices by a ground, by what old_needs tells of it."""
    if word == "all":
        return [(index, None, tuple([(place, ground[place]) for place in places]))]
    return [(index, place, ((place, ground[place]),)) for place in places]


def choices_of(rulebook, struck):
    """The dict from the names of all kinds to the lists of their choices."""
    clean = clean_kinds(rulebook, struck)
    able = able_kinds(rulebook, struck)
    live = live_indexes(rulebook)
    choices = {}
    for name, _, _, grounds in rulebook[1]:
        choices[name] = []
        for index in live[name]:
            word, places = old_places(struck, clean, able, grounds[index])
            choices[name].extend(choices_by(index, grounds[index], word, places))
    return choices


def needs_counted(choice):
    """The list of the needs of a choice that count."""
    return [need for _, need in choice[2]]
