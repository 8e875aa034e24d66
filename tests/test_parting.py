"""PARTED STEPS: point 75."""

import unittest

from tenanthall.parting import parted_steps
from tests.samples import kept_whole

SHARE = ((1, 2), 4)


def naming(tenant):
    """A STEP of each kind that names a TENANT."""
    return (("open", tenant, "h", SHARE), ("move", tenant, "k"), ("break", tenant), ("save", tenant),
            ("restore", tenant), ("export", tenant), ("import", tenant, "table emp 0 -"),
            ("correct", tenant, (0, "steps", -2)), ("job", tenant, ("get", "emp", 3)))


# A HOUSE may have a TENANT's name: it is no TENANT for that.
COMMON = (("house", "bob", "eu", 9), ("rule", ("stay", "eu")), ("price", (("room", ((0, 2),)),)), ("fall", "bob"),
          ("tick", ()), ("all", ()))


class Parted(unittest.TestCase):

    def test_steps_that_name_another_go(self):
        for step in naming("bob"):
            self.assertEqual(parted_steps((step,), "ann"), (), step)
            self.assertEqual(kept_whole(self, parted_steps, (step,), "bob"), (step,))

    def test_steps_that_name_none_stay(self):
        for name in ("ann", "bob"):
            self.assertEqual(parted_steps(COMMON, name), COMMON)

    def test_ticks_keep_the_slices_of_the_tenant(self):
        step = ("tick", (("ann", 3), ("bob", 1), ("ann", 0)))
        self.assertEqual(kept_whole(self, parted_steps, (step,), "ann"), (("tick", (("ann", 3), ("ann", 0))),))
        self.assertEqual(parted_steps((step,), "bob"), (("tick", (("bob", 1),)),))
        self.assertEqual(parted_steps((step,), "cy"), (("tick", ()),))

    def test_all_keeps_what_is_left(self):
        inner = naming("ann") + naming("bob") + COMMON[:5] + (("tick", (("bob", 2), ("ann", 1))),)
        told = kept_whole(self, parted_steps, (("all", inner),), "ann")
        self.assertEqual(told, (("all", naming("ann") + COMMON[:5] + (("tick", (("ann", 1),)),)),))
        self.assertEqual(parted_steps((("all", naming("bob")),), "ann"), (("all", ()),))

    def test_order_stays(self):
        steps = (("tick", ()), ("break", "bob"), ("fall", "h"), ("save", "ann"), ("tick", (("bob", 1),)))
        self.assertEqual(parted_steps(name="ann", steps=steps),
                         (("tick", ()), ("fall", "h"), ("save", "ann"), ("tick", ())))
        self.assertEqual(parted_steps((), "ann"), ())

    def test_parted_twice_is_as_once(self):
        steps = naming("ann") + naming("bob") + COMMON + (("all", naming("ann") + naming("bob")),)
        once = parted_steps(steps, "ann")
        self.assertEqual(parted_steps(once, "ann"), once)
        self.assertIsInstance(once, tuple)


if __name__ == "__main__":
    unittest.main()
