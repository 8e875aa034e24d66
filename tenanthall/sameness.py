"""Whether two things are the same, where True is no 1."""


def same(one, other):
    """Whether two plain things are the same."""
    if isinstance(one, (list, tuple)) and isinstance(other, (list, tuple)):
        return isinstance(one, list) == isinstance(other, list) and are_same(one, other)
    return isinstance(one, bool) == isinstance(other, bool) and one == other


def are_same(ones, others):
    """Whether two rows of things are the same, thing by thing."""
    return len(ones) == len(others) and all([same(one, other) for one, other in zip(ones, others)])
