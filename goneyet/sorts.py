"""Sorts of kinds, grounds and needs: bearing, clean, able; live; forced."""

from goneyet.rulebooks import kind_names, kind_of


def _grown(names, joins):
    """The least list of names, in their order, in which each one is that joins the list."""
    found = []
    while True:
        grown = [name for name in names if name in found or joins(name, found)]
        if len(grown) == len(found):
            return grown
        found = grown


def _is_live(rulebook, ground, bearing):
    """Whether a ground is live, if these kinds are bearing."""
    return all([
        need[0] == "row" or (need[1] in bearing and need[2] < kind_of(rulebook, need[1])[1])
        for need in ground
    ])


def bearing_kinds(rulebook):
    """The ascending tuple of the kinds that can have an answer."""

    def joins(name, found):
        return any([_is_live(rulebook, ground, found) for ground in kind_of(rulebook, name)[3]])

    return tuple(_grown(kind_names(rulebook), joins))


def live_indexes(rulebook):
    """The dict from the names of all kinds to the lists of the indexes of their live grounds."""
    bearing = bearing_kinds(rulebook)
    return {
        kind[0]: [at for at, ground in enumerate(kind[3]) if _is_live(rulebook, ground, bearing)]
        for kind in rulebook[1]
    }


def live_grounds(rulebook, name):
    """The ascending list of the indexes of the live grounds of a kind."""
    return live_indexes(rulebook)[name]


def _is_forced(struck, clean, need):
    """Whether a need is forced, if these kinds are clean."""
    if need[0] == "row":
        return need[1] in struck
    return need[1] not in clean


def _forced_places(struck, clean, ground):
    """The places of a ground of the needs that are forced, if these kinds are clean."""
    return [place for place, need in enumerate(ground) if _is_forced(struck, clean, need)]


def clean_kinds(rulebook, struck):
    """The ascending tuple of the kinds that can have an answer that is not OLD."""
    live = live_indexes(rulebook)

    def joins(name, found):
        grounds = kind_of(rulebook, name)[3]
        return any([not _forced_places(struck, found, grounds[index]) for index in live[name]])

    return tuple(_grown(kind_names(rulebook), joins))


def forced_needs(rulebook, struck, name, index):
    """The ascending list of the indexes of the forced needs of a ground."""
    ground = kind_of(rulebook, name)[3][index]
    return _forced_places(struck, clean_kinds(rulebook, struck), ground)


def _places_on(ground, kinds):
    """The places of a ground of the needs on some kinds."""
    return [place for place, need in enumerate(ground) if need[0] == "kind" and need[1] in kinds]


def able_kinds(rulebook, struck):
    """The ascending tuple of the kinds that can have an OLD answer."""
    live = live_indexes(rulebook)
    clean = clean_kinds(rulebook, struck)

    def joins(name, found):
        grounds = [kind_of(rulebook, name)[3][index] for index in live[name]]
        return any([
            len(_forced_places(struck, clean, ground) + _places_on(ground, found)) > 0 for ground in grounds
        ])

    return tuple(_grown(kind_names(rulebook), joins))


def old_places(struck, clean, able, ground):
    """What old_needs tells of a ground, if these kinds are clean and able."""
    forced = _forced_places(struck, clean, ground)
    if forced:
        return ("all", tuple(forced))
    places = _places_on(ground, able)
    if places:
        return ("one", tuple(places))
    return ("none", ())


def old_needs(rulebook, struck, name, index):
    """Which needs of a ground OLD answers must meet: all of some, one of some, or none."""
    ground = kind_of(rulebook, name)[3][index]
    return old_places(struck, clean_kinds(rulebook, struck), able_kinds(rulebook, struck), ground)
