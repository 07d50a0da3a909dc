"""Nets of keepers, played deed by deed."""

from goneyet.errors import Barred, NoGround, NoNews, Nothing, NotMet, NotMorning, Untold, Wrong
from goneyet.forms import FOR_GOOD, is_integer, is_keeper, is_rulebook, is_struck, is_within
from goneyet.rulebooks import kind_of

FIRST_BEGIN = -10000


def _check_net(rulebook, struck, changed, begin):
    """Raise Wrong for the first argument of a Net that is not as described."""
    if not is_rulebook(rulebook):
        raise Wrong(0)
    if not is_struck(rulebook, struck):
        raise Wrong(1)
    if not isinstance(changed, bool):
        raise Wrong(2)
    if not is_within(begin, FIRST_BEGIN, 0):
        raise Wrong(3)


def is_source(rulebook, thing):
    """Whether a value is a SOURCE: (row,) or a keeper of the rulebook."""
    if is_keeper(rulebook, thing):
        return True
    return isinstance(thing, tuple) and len(thing) == 1 and thing[0] in rulebook[0]


def is_old_answer(struck, answer):
    """Whether an answer (made, index, rests, newer) is OLD."""
    return any([row in struck for row in answer[2]])


def _replace(table, key, worth):
    """Put a value into a table; None takes out what is there."""
    if worth is None:
        table.pop(key, None)
    else:
        table[key] = worth


class Net:
    """A net behind its deeds.

    All that deeds change stands in tables: the answers by keepers, the rows of
    the lists and the news with how many alike ones there are, the first days on
    which barred keepers are free, and the day. What each deed puts there is
    noted with what stood there before, so that it can be taken back.
    """

    def __init__(self, rulebook, struck, changed, begin):
        _check_net(rulebook, struck, changed, begin)
        self._rulebook = rulebook
        self._struck = struck
        self._changed = changed
        self._begin = begin
        self._tables = {
            "answers": {},
            "lists": {},
            "news": {},
            "free": {},
            "now": {"day": begin, "morning": False},
        }
        self._deeds = []
        self._puts = []

    def __eq__(self, other):
        return isinstance(other, Net) and self._shown() == other._shown()

    def _shown(self):
        """All that makes two Nets equal."""
        return [
            self._rulebook,
            self._struck,
            self._changed,
            self.day_now(),
            self.is_morning(),
            self.answers_now(),
            self.lists_now(),
            self.news_now(),
            self.barred_now(),
        ]

    # What is there now.

    def day_now(self):
        """The day."""
        return self._tables["now"]["day"]

    def is_morning(self):
        """Whether keepers can be told yet on this day."""
        return self._tables["now"]["morning"]

    def answers_now(self):
        """The dict from the keepers that have an answer to (made, index, rests, newer)."""
        answers = self._tables["answers"]
        return {keeper: answers[keeper] for keeper in sorted(answers)}

    def lists_now(self):
        """The sorted list of (source, keeper, taken, tell, most), alike ones as often as they are."""
        return self._repeated("lists")

    def news_now(self):
        """The sorted list of (last, keeper, source), alike ones as often as they are."""
        return self._repeated("news")

    def barred_now(self):
        """The dict from the keepers that are barred on this day to the first day on which they are not."""
        free = self._tables["free"]
        return {keeper: free[keeper] for keeper in sorted(free) if free[keeper] > self.day_now()}

    def deeds_done(self):
        """The list of the deeds that stand."""
        return list(self._deeds)

    def _repeated(self, word):
        """The sorted list of the rows of a table that counts alike ones."""
        table = self._tables[word]
        return [row for row in sorted(table) for _ in range(table[row])]

    # Deeds.

    def dawn(self):
        """Go to the next morning; Untold if news has to come by this day."""
        self._check_all_told()
        self._note(("dawn",))
        day = self.day_now() + 1
        self._put("now", "day", day)
        self._put("now", "morning", True)
        for keeper, answer in self.answers_now().items():
            if answer[0] + kind_of(self._rulebook, keeper[0])[1] == day:
                self._put("answers", keeper, None)
        if day == 0:
            for row in self._struck:
                self._send_news((row,))

    def tell(self, keeper, source, last):
        """Tell a keeper the news from a source that has to come by the morning last."""
        if not is_keeper(self._rulebook, keeper):
            raise Wrong(0)
        self._check_morning()
        news = (last, keeper, source)
        # The form comes first: True counts as 1 and a list cannot be looked up.
        if not is_integer(last) or not is_source(self._rulebook, source) or news not in self._tables["news"]:
            raise NoNews()
        self._note(("tell", keeper, source, last))
        self._count("news", news, -1)
        self._be_told(keeper)

    def clean(self, keeper):
        """Tell a keeper by hand on this morning."""
        if not is_keeper(self._rulebook, keeper):
            raise Wrong(0)
        self._check_morning()
        self._note(("clean", keeper))
        self._be_told(keeper)

    def make(self, keeper, index, givers):
        """A keeper makes an answer by a ground of its kind, taking from these givers."""
        if not is_keeper(self._rulebook, keeper):
            raise Wrong(0)
        if not isinstance(givers, tuple):
            raise Wrong(2)
        self._check_all_told()
        grounds = kind_of(self._rulebook, keeper[0])[3]
        if not is_within(index, 0, len(grounds) - 1):
            raise NoGround(index)
        self._check_met(keeper, grounds[index], givers)
        answer = self._answer_by(index, grounds[index], givers)
        until = self._tables["free"].get(keeper, self.day_now())
        if until > self.day_now() and is_old_answer(self._struck, answer):
            raise Barred(until)
        self._note(("make", keeper, index, givers))
        self._put_on_lists(keeper, grounds[index], givers)
        self._put("answers", keeper, answer)
        self._put("now", "morning", False)

    def tell_due(self):
        """Tell what has to come by this day, the least row first; the list of the deeds."""
        before = len(self._deeds)
        due = self._due()
        while due:
            last, keeper, source = due[0]
            self.tell(keeper, source, last)
            due = self._due()
        return self._deeds[before:]

    def undo(self):
        """Take the last deed back and return it; Nothing if there is none."""
        if not self._deeds:
            raise Nothing()
        puts = self._puts.pop()
        for word, key, former in reversed(puts):
            _replace(self._tables[word], key, former)
        return self._deeds.pop()

    def copied(self):
        """An independent Net as this one is, with its deeds."""
        net = Net(self._rulebook, self._struck, self._changed, self._begin)
        net._tables = {word: {key: table[key] for key in table} for word, table in self._tables.items()}
        net._deeds = list(self._deeds)
        net._puts = [list(puts) for puts in self._puts]
        return net

    # What deeds are made of.

    def _note(self, deed):
        """Begin a deed that can be done."""
        self._deeds.append(deed)
        self._puts.append([])

    def _put(self, word, key, worth):
        """Put a value into a table, by the deed that has begun."""
        table = self._tables[word]
        self._puts[-1].append((word, key, table.get(key)))
        _replace(table, key, worth)

    def _count(self, word, row, more):
        """Let so many more alike rows stand in a table that counts them."""
        many = self._tables[word].get(row, 0) + more
        self._put(word, row, many if many > 0 else None)

    def _due(self):
        """The rows of news_now that have to come by this day."""
        return [row for row in self.news_now() if row[0] <= self.day_now()]

    def _check_all_told(self):
        """Raise Untold if some news has to come by this day."""
        if self._due():
            raise Untold(self.day_now())

    def _check_morning(self):
        """Raise NotMorning if keepers cannot be told any more on this day."""
        if not self.is_morning():
            raise NotMorning()

    def _check_met(self, keeper, ground, givers):
        """Raise NotMet at the first place where need and giver do not go together."""
        for place in range(max(len(ground), len(givers))):
            if place >= len(ground) or place >= len(givers):
                raise NotMet(place)
            if not self._is_met(keeper, ground[place], givers[place]):
                raise NotMet(place)

    def _is_met(self, keeper, need, giver):
        """Whether an item of givers, any value, meets a need of a keeper."""
        if need[0] == "row":
            return giver is None and (self._changed or self.day_now() < 0 or need[1] not in self._struck)
        if not is_keeper(self._rulebook, giver) or giver[0] != need[1] or giver == keeper:
            return False
        answer = self._tables["answers"].get(giver)
        return answer is not None and answer[0] + need[2] <= self.day_now()

    def _answer_by(self, index, ground, givers):
        """The answer (made, index, rests, newer) that is made today by needs that are met."""
        rests = []
        newer = []
        for need, giver in zip(ground, givers):
            if giver is not None:
                answer = self._tables["answers"][giver]
                rests.extend(answer[2])
                newer.extend(answer[3])
            elif need[1] in self._struck and self.day_now() >= 0:
                newer.append(need[1])
            else:
                rests.append(need[1])
        return (self.day_now(), index, tuple(sorted(set(rests))), tuple(sorted(set(newer))))

    def _put_on_lists(self, keeper, ground, givers):
        """Put a maker on the lists of the struck rows and of the OLD answers that it takes."""
        day = self.day_now()
        for need, giver in zip(ground, givers):
            if giver is None:
                source = (need[1],)
                is_listed = day < 0 and need[1] in self._struck
            else:
                source = giver
                is_listed = is_old_answer(self._struck, self._tables["answers"][giver])
            if is_listed:
                self._count("lists", (source, keeper, day, need[-2], need[-1]), 1)

    def _be_told(self, keeper):
        """A keeper is told on this morning: its list, its answer, its bar."""
        self._send_news(keeper)
        answer = self._tables["answers"].get(keeper)
        if answer is not None and is_old_answer(self._struck, answer):
            self._put("answers", keeper, None)
        free = self._tables["free"].get(keeper, self.day_now())
        self._put("free", keeper, max(free, self.day_now() + kind_of(self._rulebook, keeper[0])[2]))

    def _send_news(self, source):
        """Send news after those on the list of a source, and empty it."""
        day = self.day_now()
        lists = self._tables["lists"]
        listed = [row for row in lists if row[0] == source]
        for row in listed:
            _, keeper, taken, tell, most = row
            if most == FOR_GOOD or day - taken <= most:
                self._count("news", (day + tell, keeper, source), lists[row])
            self._put("lists", row, None)
