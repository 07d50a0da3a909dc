"""Scripts: what they are, how they are played, and their texts."""

from goneyet.errors import BadDeed, GoneError, NoText, Wrong
from goneyet.forms import is_integer, is_name, is_within
from goneyet.net import FIRST_BEGIN, Net, is_old_answer
from goneyet.words import integer_shown, is_digits, words_of


def _is_keeper_form(thing):
    """Whether a value has the form of a keeper, of whatever kind."""
    if not isinstance(thing, tuple) or len(thing) != 2:
        return False
    return is_name(thing[0]) and is_integer(thing[1]) and thing[1] >= 0


def _is_source_form(thing):
    """Whether a value has the form of a source."""
    if isinstance(thing, tuple) and len(thing) == 1:
        return is_name(thing[0])
    return _is_keeper_form(thing)


def _are_givers(thing):
    """Whether a value has the form of the givers of a deed."""
    if not isinstance(thing, tuple):
        return False
    return all([giver is None or _is_keeper_form(giver) for giver in thing])


def _is_deed(thing):
    """Whether a value has the form of a DEED."""
    if not isinstance(thing, tuple) or len(thing) not in (1, 2, 4):
        return False
    if len(thing) == 1:
        return thing[0] == "dawn"
    if not _is_keeper_form(thing[1]):
        return False
    if len(thing) == 2:
        return thing[0] == "clean"
    if thing[0] == "tell":
        return _is_source_form(thing[2]) and is_integer(thing[3])
    return thing[0] == "make" and is_integer(thing[2]) and _are_givers(thing[3])


def is_script(thing):
    """Whether a value has the form of a SCRIPT."""
    if not isinstance(thing, tuple) or len(thing) != 2 or not isinstance(thing[1], tuple):
        return False
    return is_within(thing[0], FIRST_BEGIN, 0) and all([_is_deed(deed) for deed in thing[1]])


def _do(net, deed):
    """Do a deed in a Net."""
    word = deed[0]
    if word == "dawn":
        net.dawn()
    elif word == "tell":
        net.tell(deed[1], deed[2], deed[3])
    elif word == "make":
        net.make(deed[1], deed[2], deed[3])
    else:
        net.clean(deed[1])


def played(rulebook, struck, changed, script):
    """The Net behind a script; BadDeed with the index of the first deed that cannot be done."""
    begin, deeds = script
    net = Net(rulebook, struck, changed, begin)
    for index, deed in enumerate(deeds):
        try:
            _do(net, deed)
        except GoneError:
            raise BadDeed(index) from None
    return net


def first_bad(rulebook, struck, changed, script):
    """The index of the first deed that cannot be done, or None."""
    try:
        played(rulebook, struck, changed, script)
    except BadDeed as bad:
        return bad.index
    return None


def _has_old(net, struck, kind):
    """Whether an OLD answer of a kind stands now."""
    answers = net.answers_now()
    return any([is_old_answer(struck, answers[keeper]) for keeper in answers if keeper[0] == kind])


def old_days(rulebook, struck, changed, script, kind):
    """The ascending list of the days on which an OLD answer of a kind stands."""
    begin, deeds = script
    net = Net(rulebook, struck, changed, begin)
    days = []
    for deed in deeds:
        # Ahead of these deeds all telling of the day is over.
        if deed[0] in ("dawn", "make") and _has_old(net, struck, kind):
            days.append(net.day_now())
        _do(net, deed)
    if _has_old(net, struck, kind):
        days.append(net.day_now())
    return sorted(set(days))


def old_moments(rulebook, struck, changed, script, kind):
    """The ascending list of the (made, keeper) of the OLD answers of a kind that are made."""
    begin, deeds = script
    net = Net(rulebook, struck, changed, begin)
    moments = []
    for deed in deeds:
        _do(net, deed)
        if deed[0] == "make" and deed[1][0] == kind:
            if is_old_answer(struck, net.answers_now()[deed[1]]):
                moments.append((net.day_now(), deed[1]))
    return sorted(set(moments))


def _shown_source(source):
    """The words of a source."""
    return " ".join([str(part) for part in source])


def _shown_deed(deed):
    """The line of a deed."""
    word = deed[0]
    if word == "dawn":
        return word
    line = f"{word} {_shown_source(deed[1])}"
    if word == "tell":
        return f"{line} from {_shown_source(deed[2])} last {deed[3]}"
    if word == "make":
        givers = ["-" if giver is None else _shown_source(giver) for giver in deed[3]]
        return " ".join([f"{line} ground {deed[2]}"] + givers)
    return line


def show_script(script):
    """The text of a script."""
    begin, deeds = script
    return "\n".join([f"begin {begin}"] + [_shown_deed(deed) for deed in deeds])


def _keeper_from(words):
    """The keeper that two words show; None if they show none."""
    if len(words) != 2 or not is_name(words[0]) or not is_digits(words[1]):
        return None
    return (words[0], int(words[1]))


def _tell_from(keeper, words):
    """The deed that tells a keeper, by the words behind it; None if there is none."""
    if len(words) not in (4, 5) or words[0] != "from" or words[-2] != "last":
        return None
    source = _keeper_from(words[1:-2])
    if len(words) == 4 and is_name(words[1]):
        source = (words[1],)
    last = integer_shown(words[-1])
    if source is None or last is None:
        return None
    return ("tell", keeper, source, last)


def _make_from(keeper, words):
    """The deed that a keeper makes an answer, by the words behind it; None if there is none."""
    if len(words) < 2 or words[0] != "ground":
        return None
    index = integer_shown(words[1])
    givers = []
    start = 2
    while start < len(words):
        # A hyphen stands alone, and is no keeper; all others are keepers of two words.
        size = 1 if words[start] == "-" else 2
        giver = _keeper_from(words[start:start + size])
        if size == 2 and giver is None:
            return None
        givers.append(giver)
        start += size
    return None if index is None else ("make", keeper, index, tuple(givers))


def _deed_from(words):
    """The deed that the words of a line show; None if they show none."""
    if words == ["dawn"]:
        return ("dawn",)
    keeper = _keeper_from(words[1:3])
    if keeper is None:
        return None
    if words[0] == "tell":
        return _tell_from(keeper, words[3:])
    if words[0] == "make":
        return _make_from(keeper, words[3:])
    if words[0] == "clean" and len(words) == 3:
        return ("clean", keeper)
    return None


def _begin_from(words):
    """The day on which a script begins, by the words of its first line; None if there is none."""
    if len(words) != 2 or words[0] != "begin":
        return None
    begin = integer_shown(words[1])
    return begin if is_within(begin, FIRST_BEGIN, 0) else None


def read_script(text):
    """The script that a text shows; NoText with the first bad line if it shows none."""
    if not isinstance(text, str):
        raise Wrong(0)
    lines = [words_of(line) for line in text.split("\n")]
    begin = None
    deeds = []
    for k, words in enumerate(lines):
        if not words or words[0][0] == "#":
            continue
        if begin is None:
            begin = _begin_from(words)
            if begin is None:
                raise NoText(k)
        else:
            deed = _deed_from(words)
            if deed is None:
                raise NoText(k)
            deeds.append(deed)
    if begin is None:
        raise NoText(len(lines))
    return (begin, tuple(deeds))
