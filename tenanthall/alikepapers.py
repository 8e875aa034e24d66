"""PAPERS of two rows of STEPS by which a TENANT's SIGHT of both is the same."""

from tenanthall.parting import parted_steps
from tenanthall.sameness import same


def alike_paper(one, other, name):
    """A PAPER of two rows of STEPS for a TENANT, None where there is none."""
    if not same(parted_steps(one, name), parted_steps(other, name)):
        return None
    return tuple(zip(places_left(one, name), places_left(other, name)))


def places_left(steps, name):
    """The places of those STEPS that aren't nothing PARTED alone."""
    return [place for place, step in enumerate(steps) if parted_steps((step,), name) != ()]
