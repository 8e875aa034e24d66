"""PACE PAPERS: how many STEPS each guest of a HOUSE was given, tick by tick."""


def givens_of(paper, name, *, ticks):
    """How many STEPS a PACE PAPER gave a name, any thing, at each of so many ticks."""
    givens = [0] * ticks
    for tick, guest, many in paper:
        if guest == name and tick < ticks:
            givens[tick] += many
    return tuple(givens)
