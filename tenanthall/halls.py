"""The HALL of nothing, and how many ROWS its MOVES copy at a tick's end."""

MANY = 4


def void_hall():
    """The HALL of nothing: (tick, rules, prices, houses, holdings)."""
    return 0, (), (), (), ()
