"""Changed rows: which needs are FRESH on which days, and what OLD answers are made of then."""

from goneyet.choices import choices_by, needs_counted
from goneyet.rulebooks import kind_of
from goneyet.sorts import able_kinds, clean_kinds, live_indexes
from goneyet.tellings import MOST_KEEP, NEVER, told_on

# Ahead of all days, as NEVER is behind them.
ALWAYS = -1000000


def day_of_need(starts, need):
    """The day from which on a need is met by what is FRESH, by the first days of kinds; 0 at least."""
    if need[0] == "row":
        return 0
    return max(0, starts.get(need[1], NEVER) + need[2])


def _starts_of(rulebook, struck, live):
    """The dict from the bearing kinds to the first day of FRESH answers, ALWAYS for clean kinds."""
    starts = {name: ALWAYS for name in clean_kinds(rulebook, struck)}
    falls = True
    while falls:
        falls = False
        for name in live:
            grounds = [kind_of(rulebook, name)[3][index] for index in live[name]]
            days = [max([day_of_need(starts, need) for need in ground]) for ground in grounds]
            day = min(days, default=NEVER)
            if day < starts.get(name, NEVER):
                starts[name] = day
                falls = True
    return starts


class Changes:
    """A rulebook with a lot of rows that are changed: its live grounds, able kinds, and first days of FRESH answers.

    From the day settled on all needs of live grounds can be met by what is FRESH.
    """

    def __init__(self, rulebook, struck):
        self.rulebook = rulebook
        self.struck = struck
        self.live = live_indexes(rulebook)
        self.able = able_kinds(rulebook, struck)
        self.starts = _starts_of(rulebook, struck, self.live)
        self.settled = max([0] + [day_of_need(self.starts, need) for ground in self.all_live() for need in ground])
        self.keeps = {kind[0]: kind[1] for kind in rulebook[1]}

    def grounds_of(self, name):
        """The list of the live grounds of a kind."""
        return [kind_of(self.rulebook, name)[3][index] for index in self.live[name]]

    def all_live(self):
        """The list of all live grounds."""
        return [ground for name in self.live for ground in self.grounds_of(name)]

    def is_fresh(self, need, day):
        """Whether a need can be met on a day by what is FRESH."""
        if need[0] == "row":
            return day >= 0 or need[1] not in self.struck
        return self.starts.get(need[1], NEVER) + need[2] <= day

    def fresh_grounds(self):
        """The dict from the bearing kinds that are not clean to the grounds by which FRESH answers are made first."""
        indexes = {}
        for name in self.starts:
            if self.starts[name] != ALWAYS:
                indexes[name] = [
                    index for index, ground in zip(self.live[name], self.grounds_of(name))
                    if max([day_of_need(self.starts, need) for need in ground]) == self.starts[name]
                ][0]
        return indexes

    def choices_on(self, day):
        """The dict from the names of all kinds to the lists of their choices on a day."""
        choices = {}
        for name in self.live:
            choices[name] = []
            for index in self.live[name]:
                ground = kind_of(self.rulebook, name)[3][index]
                forced = [place for place, need in enumerate(ground) if not self.is_fresh(need, day)]
                able = [place for place, need in enumerate(ground) if need[0] == "kind" and need[1] in self.able]
                choices[name].extend(choices_by(index, ground, "all" if forced else "one", forced if forced else able))
        return choices

    def lists_on(self, day):
        """The dict from all kinds to lists of needs, one of which has to be met wholly for an OLD answer on a day."""
        choices = self.choices_on(day)
        return {name: [needs_counted(choice) for choice in choices[name]] for name in choices}

    def lead_on(self, columns, first, last):
        """Add the greatest told numbers of the days from first to last to the columns of all kinds."""
        lists = self.lists_on(first)
        for day in range(first, last + 1):
            if 0 <= day <= self.settled:
                lists = self.lists_on(day)
            todays = [(name, told_on(lists[name], self.keeps, columns, day)) for name in lists]
            for name, told in todays:
                columns[name].append(told)

    def columns_from(self, before, first, last):
        """The dict from all kinds to columns of the greatest told numbers on the days from first - 8 to last.

        The numbers for the days ahead of first are given.
        """
        columns = {name: [before[name]] * MOST_KEEP for name in self.live}
        self.lead_on(columns, first, last)
        return columns
