"""Whether any thing is a PAPER of two rows of STEPS; it seeks nothing."""

from tenanthall.errors import NoPaper
from tenanthall.kinds import is_number, is_tuple_of
from tenanthall.parting import parted_steps
from tenanthall.sameness import same


def lets_alike(one, other, name, thing):
    """How many pairs a PAPER of two rows of STEPS has; any other thing is refused."""
    if not is_tuple_of_pairs(thing):
        raise NoPaper("shape", -1)
    ahead = (-1, -1)
    for k, (i, j) in enumerate(thing):
        if i >= len(one) or j >= len(other):
            raise NoPaper("place", k)
        if i <= ahead[0] or j <= ahead[1]:
            raise NoPaper("order", k)
        if not same(parted_steps((one[i],), name), parted_steps((other[j],), name)):
            raise NoPaper("same", k)
        ahead = (i, j)
    for side, steps in enumerate((one, other)):
        refuse_left(steps, name, {pair[side]: True for pair in thing}, side)
    return len(thing)


def is_tuple_of_pairs(thing):
    """Whether it is a tuple of pairs of NUMBERS."""
    return isinstance(thing, tuple) and all([is_pair(part) for part in thing])


def is_pair(thing):
    """Whether it is a pair of NUMBERS."""
    return is_tuple_of(thing, 2) and is_number(thing[0]) and is_number(thing[1])


def refuse_left(steps, name, places, side):
    """Refuse the first STEP whose place isn't among these, and that isn't nothing PARTED alone."""
    for i, step in enumerate(steps):
        if i not in places and parted_steps((step,), name) != ():
            raise NoPaper("left", (side, i))
