"""Rulebooks: what stands where in them, and others that are made of them."""

from goneyet.errors import NoKind, TooMany, Unlike

ROW_WORDS = ("tell", "most")
KIND_WORDS = ("after", "tell", "most")
MOST_GROUNDS = 4


def kind_of(rulebook, name):
    """The KIND with a name; NoKind if the name, any value, is that of none."""
    for kind in rulebook[1]:
        if kind[0] == name:
            return kind
    raise NoKind(name)


def kind_names(rulebook):
    """The ascending list of the names of all kinds."""
    return [kind[0] for kind in rulebook[1]]


def places_of(rulebook):
    """The ascending list of all PLACES (name, ground, need)."""
    return [
        (kind[0], at, place)
        for kind in rulebook[1]
        for at, ground in enumerate(kind[3])
        for place in range(len(ground))
    ]


def _is_dead(rulebook, ground):
    """Whether a ground has a need on a kind whose answers are never kept so long."""
    kinds_needed = [need for need in ground if need[0] == "kind"]
    return any([kind_of(rulebook, need[1])[1] <= need[2] for need in kinds_needed])


def dead_grounds(rulebook):
    """The ascending list of the (name, ground) whose ground can never be met for its keeps."""
    return [
        (kind[0], at)
        for kind in rulebook[1]
        for at, ground in enumerate(kind[3])
        if _is_dead(rulebook, ground)
    ]


def need_at(rulebook, place):
    """The need at a place."""
    name, ground, need = place
    return kind_of(rulebook, name)[3][ground][need]


def _words_of(need):
    """The words of the numbers of a need, in order."""
    if need[0] == "row":
        return ROW_WORDS
    return KIND_WORDS


def _number_at(rulebook, dial):
    """The number of a dial."""
    spot, word = dial
    if isinstance(spot, str):
        _, keep, bar, _ = kind_of(rulebook, spot)
        return keep if word == "keep" else bar
    need = need_at(rulebook, spot)
    return need[2 + _words_of(need).index(word)]


def numbers_at(rulebook, dials):
    """The tuple of the numbers of some dials."""
    return tuple([_number_at(rulebook, dial) for dial in dials])


def in_order(things):
    """The ascending tuple of some values, those that are equal once."""
    return tuple(sorted(set(things)))


def made_kind(name, keep, bar, grounds):
    """The kind with these grounds, lists of needs, put in order."""
    return (name, keep, bar, in_order([in_order(ground) for ground in grounds]))


def _dialed_need(need, place, given):
    """A need with those of its numbers exchanged that are given for its place."""
    words = _words_of(need)
    numbers = [given.get((place, words[k]), need[2 + k]) for k in range(len(words))]
    return (need[0], need[1]) + tuple(numbers)


def _dialed_kind(kind, given):
    """A kind with the numbers that are given for it."""
    name, keep, bar, grounds = kind
    dialed = []
    for at, ground in enumerate(grounds):
        dialed.append([_dialed_need(need, (name, at, k), given) for k, need in enumerate(ground)])
    return made_kind(name, given.get((name, "keep"), keep), given.get((name, "bar"), bar), dialed)


def with_numbers(rulebook, dials, values):
    """The rulebook with these values at these dials, all put in at once."""
    given = {dials[k]: values[k] for k in range(len(dials))}
    return (rulebook[0], tuple([_dialed_kind(kind, given) for kind in rulebook[1]]))


def with_kind(rulebook, kind):
    """The rulebook with a kind, in the place of the one with its name if there is one."""
    others = [other for other in rulebook[1] if other[0] != kind[0]]
    return (rulebook[0], tuple(sorted(others + [kind])))


def _needs_kind(ground, name):
    """Whether a ground has a need on a kind."""
    return any([need[0] == "kind" and need[1] == name for need in ground])


def without_kind(rulebook, name):
    """The rulebook without a kind and all grounds that need it; NoKind for none or the only one."""
    names = kind_names(rulebook)
    if name not in names or len(names) == 1:
        raise NoKind(name)
    kinds = []
    for other, keep, bar, grounds in rulebook[1]:
        if other != name:
            left = [ground for ground in grounds if not _needs_kind(ground, name)]
            kinds.append((other, keep, bar, tuple(left)))
    return (rulebook[0], tuple(kinds))


def _joined_kind(alike):
    """One kind for the one or two of a name, whose keep and bar are the same."""
    name, keep, bar, _ = alike[0]
    return made_kind(name, keep, bar, [ground for kind in alike for ground in kind[3]])


def joined_rulebooks(one, other):
    """The rulebook with the rows and kinds of both; Unlike or TooMany if they do not go together."""
    names = sorted(set(kind_names(one) + kind_names(other)))
    alikes = [[kind for kind in one[1] + other[1] if kind[0] == name] for name in names]
    for alike in alikes:
        if alike[0][1:3] != alike[-1][1:3]:
            raise Unlike(alike[0][0])
    kinds = [_joined_kind(alike) for alike in alikes]
    if any([len(kind[3]) > MOST_GROUNDS for kind in kinds]):
        raise TooMany(MOST_GROUNDS)
    return (in_order(one[0] + other[0]), tuple(kinds))


def _led_need(need, rows, kinds):
    """A need on the row or kind with the new name."""
    names = rows if need[0] == "row" else kinds
    return (need[0], names[need[1]]) + need[2:]


def led_rulebook(rulebook, rows, kinds):
    """The rulebook with new names, by a dict for its rows and one for its kinds."""
    led = []
    for name, keep, bar, grounds in rulebook[1]:
        renamed = [[_led_need(need, rows, kinds) for need in ground] for ground in grounds]
        led.append(made_kind(kinds[name], keep, bar, renamed))
    return (in_order([rows[row] for row in rulebook[0]]), tuple(sorted(led)))
