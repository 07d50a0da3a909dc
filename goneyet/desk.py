"""Desks: Books that are led and asked by lines of text."""

from goneyet.book import Book
from goneyet.classes import class_of
from goneyet.commands import command_from
from goneyet.errors import (
    NoCommand, NoDial, NoIndex, NoKind, NoLot, NoName, NotHeld, Nothing, TooMany, Wrong,
)
from goneyet.leasttable import last_day
from goneyet.reader import read_rulebook
from goneyet.rulebooks import MOST_GROUNDS, kind_names, kind_of, made_kind
from goneyet.texts import show_rulebook
from goneyet.words import words_of

QUESTIONS = ("text", "wishes", "class", "last", "stands")


def _last_shown(rulebook, struck, name):
    """The last day on which an OLD answer of a kind can stand, as a word."""
    last = last_day(rulebook, struck, name)
    return "none" if last is None else str(last)


def _stands_shown(rulebook, struck, name, day):
    """Whether an OLD answer of a kind can stand on a day, as a word."""
    last = last_day(rulebook, struck, name)
    return "yes" if last == "endless" or (last is not None and last >= day) else "no"


class Desk:
    """A Book that is led and asked by lines."""

    def __init__(self, text):
        rulebook = read_rulebook(text)
        self._book = Book(rulebook, rulebook[0])

    def book(self):
        """A copy of the Book."""
        return self._book.copied()

    def execute(self, line):
        """Execute a line; the list of the lines of the answer. NoCommand if it is none."""
        if not isinstance(line, str):
            raise Wrong(0)
        command = command_from(words_of(line))
        if command is None:
            raise NoCommand()
        if command[0] in QUESTIONS:
            return self._answer(command)
        word = self._refusal(command)
        return ["done"] if word is None else [f"refused {word}"]

    def _answer(self, command):
        """The answer to a question."""
        rulebook = self._book.rulebook_now()
        struck = self._book.struck_now()
        word = command[0]
        if word == "text":
            return show_rulebook(rulebook).split("\n")
        if word == "wishes":
            return [" ".join([str(part) for part in wish]) for wish in self._book.wishes_now()]
        if command[1] not in kind_names(rulebook):
            return ["none"]
        if word == "class":
            return [class_of(rulebook, struck, command[1])]
        if word == "last":
            return [_last_shown(rulebook, struck, command[1])]
        return [_stands_shown(rulebook, struck, command[1], command[2])]

    def _refusal(self, command):
        """Do what a command says; the name of the class of the error if it is refused, otherwise None."""
        try:
            self._do(command)
        except NoDial:
            return "NoDial"
        except NoIndex:
            return "NoIndex"
        except NoKind:
            return "NoKind"
        except NoLot:
            return "NoLot"
        except NoName:
            return "NoName"
        except NotHeld:
            return "NotHeld"
        except Nothing:
            return "Nothing"
        except TooMany:
            return "TooMany"
        return None

    def _do(self, command):
        """Do what a command says."""
        if command[0] == "undo":
            self._book.undo()
        elif command[0] == "kind":
            self._do_kind(command[1], command[2], command[3])
        elif command[0] == "from":
            self._do_ground(command[1], command[2])
        else:
            self._book.do(command)

    def _do_kind(self, name, keep, bar):
        """Give a kind these numbers, with the grounds that it has."""
        rulebook = self._book.rulebook_now()
        grounds = kind_of(rulebook, name)[3] if name in kind_names(rulebook) else ()
        self._book.do(("kind", (name, keep, bar, grounds)))

    def _do_ground(self, name, ground):
        """Give a kind one ground more; NoKind if there is none, TooMany if it has this one, or four."""
        _, keep, bar, grounds = kind_of(self._book.rulebook_now(), name)
        if len(grounds) == MOST_GROUNDS or ground in grounds:
            raise TooMany(MOST_GROUNDS)
        self._book.do(("kind", made_kind(name, keep, bar, list(grounds) + [ground])))
