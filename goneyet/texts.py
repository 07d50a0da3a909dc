"""Rulebooks as texts."""

from goneyet.rulebooks import KIND_WORDS, ROW_WORDS


def _shown_need(need):
    """The words of a need, with one blank between them."""
    words = ROW_WORDS if need[0] == "row" else KIND_WORDS
    numbers = [f"{words[k]} {need[2 + k]}" for k in range(len(words))]
    return " ".join([need[0], need[1]] + numbers)


def _shown_ground(ground):
    """The line of a ground."""
    return "from " + " and ".join([_shown_need(need) for need in ground])


def show_rulebook(rulebook):
    """The text of a rulebook: its rows, then each kind and its grounds, in order."""
    rows, kinds = rulebook
    lines = [" ".join(["rows"] + list(rows))]
    for name, keep, bar, grounds in kinds:
        lines.append(f"kind {name} keep {keep} bar {bar}")
        lines.extend([_shown_ground(ground) for ground in grounds])
    return "\n".join(lines)
