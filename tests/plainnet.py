"""A second, plainer way to lead nets, to compare goneyet.net with.

A PlainNet keeps plain lists that are searched and copied whole; it tells of a
deed that cannot be done by the name and fields of the error.
"""

import copy


class PlainNet:
    def __init__(self, rulebook, struck, changed, begin):
        self.kinds = {kind[0]: kind for kind in rulebook[1]}
        self.struck, self.changed, self.day, self.morning = struck, changed, begin, False
        self.answers = []  # [keeper, made, index, rows of before, rows of what is new]
        self.listed = []
        self.news = []
        self.bars = []  # (keeper, first free day)
        self.history = []

    def seen(self):
        answers = sorted((tuple(a[0]), (a[1], a[2], tuple(sorted(a[3])), tuple(sorted(a[4])))) for a in self.answers)
        free = {}
        for keeper, until in sorted(self.bars):
            if until > self.day:
                free[keeper] = max(until, free.get(keeper, until))
        return (self.day, self.morning, answers, sorted(self.listed), sorted(self.news), sorted(free.items()))

    def answer(self, keeper):
        found = [a for a in self.answers if a[0] == keeper]
        return found[0] if found else None

    def is_old(self, answer):
        return answer is not None and bool(set(answer[3]) & set(self.struck))

    def do(self, deed):
        """Do a deed; None, or the name and the value of the error."""
        before = copy.deepcopy({key: self.__dict__[key] for key in ("day", "morning", "answers", "listed", "news", "bars")})
        error = getattr(self, deed[0])(*deed[1:])
        if error is None:
            self.history.append(before)
        else:
            assert before == {key: self.__dict__[key] for key in before}
        return error

    def undo(self):
        self.__dict__.update(self.history.pop())

    def dawn(self):
        if any(last <= self.day for last, _, _ in self.news):
            return ("Untold", self.day)
        self.day += 1
        self.morning = True
        self.answers = [a for a in self.answers if a[1] + self.kinds[a[0][0]][1] > self.day]
        if self.day == 0:
            for name in self.struck:
                self.spread((name,))
        return None

    def spread(self, source):
        for row in list(self.listed):
            if row[0] == source:
                _, taker, taken, tell, most = row
                self.listed.remove(row)
                if most == 9 or self.day <= taken + most:
                    self.news.append((self.day + tell, taker, source))

    def hear(self, keeper):
        self.spread(keeper)
        self.answers = [a for a in self.answers if a[0] != keeper or not self.is_old(a)]
        self.bars.append((keeper, self.day + self.kinds[keeper[0]][2]))

    def tell(self, keeper, source, last):
        if not self.morning:
            return ("NotMorning", None)
        if (last, keeper, source) not in self.news:
            return ("NoNews", None)
        self.news.remove((last, keeper, source))
        self.hear(keeper)
        return None

    def clean(self, keeper):
        if not self.morning:
            return ("NotMorning", None)
        self.hear(keeper)
        return None

    def make(self, keeper, index, givers):
        if any(last <= self.day for last, _, _ in self.news):
            return ("Untold", self.day)
        grounds = self.kinds[keeper[0]][3]
        if index not in range(len(grounds)):
            return ("NoGround", index)
        ground, before, new, listed = grounds[index], set(), set(), []
        for place in range(max(len(ground), len(givers))):
            if place >= min(len(ground), len(givers)):
                return ("NotMet", place)
            need, giver = ground[place], givers[place]
            if need[0] == "row":
                gone = need[1] in self.struck and self.day >= 0
                if giver is not None or (gone and not self.changed):
                    return ("NotMet", place)
                (new if gone else before).add(need[1])
                if need[1] in self.struck and not gone:
                    listed.append(((need[1],), keeper, self.day, need[2], need[3]))
            else:
                taken = None if giver is None or giver == keeper or giver[0] != need[1] else self.answer(giver)
                if taken is None or self.day - taken[1] < need[2]:
                    return ("NotMet", place)
                before |= set(taken[3])
                new |= set(taken[4])
                if self.is_old(taken):
                    listed.append((giver, keeper, self.day, need[3], need[4]))
        made = [keeper, self.day, index, before, new]
        until = max([free for barred, free in self.bars if barred == keeper] + [self.day])
        if self.is_old(made) and until > self.day:
            return ("Barred", until)
        self.listed += listed
        self.answers = [a for a in self.answers if a[0] != keeper] + [made]
        self.morning = False
        return None
