"""SIGHTS and SHAPES: point 74."""

import unittest

from tenanthall.sights import shape_of, sight_of
from tests.samples import STORE, kept_whole

LOG = (
    (("open", "ann", "h", ((1, 1), 2)), ((None, 0, "opened", "ann", "h"), ("ann", 0, "opened"))),
    (("break", "bob"), ()),
    (("tick", ()), (("bob", 0, "done", 0, True), ("ann", 0, "done", 0, 7), (None, 0, "switched", "bob", "k"))),
    (("job", "ann", ("get", "emp", 3)), (("ann", 1, "took", 1),)),
)


class Sights(unittest.TestCase):

    def test_sight_of_a_tenant(self):
        told = kept_whole(self, sight_of, LOG, "ann")
        self.assertEqual(told, ((0, "opened"), (0, "done", 0, 7), (1, "took", 1)))
        self.assertEqual(sight_of(name="bob", log=LOG), ((0, "done", 0, True),))
        self.assertIs(sight_of(LOG, "bob")[0][3], True)

    def test_sight_of_the_admins(self):
        self.assertEqual(sight_of(LOG, None), ((0, "opened", "ann", "h"), (0, "switched", "bob", "k")))

    def test_nothing_seen(self):
        self.assertEqual(sight_of(LOG, "cy"), ())
        self.assertEqual(sight_of((), "ann"), ())
        self.assertEqual(sight_of((), None), ())

    def test_tuples_told(self):
        told = sight_of(LOG, "ann")
        self.assertIsInstance(told, tuple)
        for event in told:
            self.assertIsInstance(event, tuple)


class Shapes(unittest.TestCase):

    def test_shape(self):
        told = kept_whole(self, shape_of, STORE)
        self.assertEqual(told, (("dept", 1, 1, ()), ("emp", 5, 2, (0, 2)), ("void", 0, 0, (1,))))
        self.assertIsInstance(told, tuple)
        self.assertEqual(shape_of(store=()), ())


if __name__ == "__main__":
    unittest.main()
