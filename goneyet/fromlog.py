"""Logs: what has happened up to a morning, and until when each keeper is told of it at the latest."""

from goneyet.errors import GoneError
from goneyet.forms import FOR_GOOD
from goneyet.scripts import is_script, played
from goneyet.tellings import NEVER, told_shown


def is_log(rulebook, struck, thing):
    """Whether a value is a LOG."""
    if not is_script(thing) or any([deed[0] == "clean" for deed in thing[1]]):
        return False
    try:
        played(rulebook, struck, False, thing).dawn()
    except GoneError:
        return False
    return True


def now_of(log):
    """The day that comes behind a LOG."""
    begin, deeds = log
    return begin + len([deed for deed in deeds if deed[0] == "dawn"]) + 1


def _news_by(row, latest):
    """The told number that a row of the lists gives, by those of the keepers that are told some day."""
    source, _, taken, tell, most = row
    told = 0 if len(source) == 1 else latest.get(source, NEVER)
    if told == NEVER or (most < FOR_GOOD and told - taken > most):
        return NEVER
    return told + tell


def latest_tolds(net, lot):
    """The dict from the keepers that are told some day to their latest told numbers, behind a log that is played.

    The keepers of a lot are told on the next morning at the latest.
    """
    latest = {keeper: net.day_now() + 1 for keeper in lot}
    for last, keeper, _ in net.news_now():
        latest[keeper] = min(last, latest.get(keeper, last))
    rows = net.lists_now()
    falls = True
    # From NEVER on numbers only fall, and what has fallen lets others fall: the greatest ones are left.
    while falls:
        falls = False
        for row in rows:
            told = _news_by(row, latest)
            if told < latest.get(row[1], NEVER):
                latest[row[1]] = told
                falls = True
    return latest


def latest_told(rulebook, struck, log, keeper):
    """The LATEST TOLD DAY of a keeper behind a LOG."""
    latest = latest_tolds(played(rulebook, struck, False, log), ())
    return told_shown(latest.get(keeper, NEVER))


def latest_all(rulebook, struck, log):
    """The dict from all keepers with an answer, on a list, or with news under way to their LATEST TOLD DAYS."""
    net = played(rulebook, struck, False, log)
    latest = latest_tolds(net, ())
    keepers = list(net.answers_now()) + [row[1] for row in net.lists_now()] + [row[1] for row in net.news_now()]
    return {keeper: told_shown(latest.get(keeper, NEVER)) for keeper in sorted(set(keepers))}
