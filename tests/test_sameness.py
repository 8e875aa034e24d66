"""Sameness: what point 2 says of comparing."""

import ast
import unittest

from tenanthall.sameness import same
from tests.samples import kept_whole

# Things that are all unlike, though Python finds some of them equal.
UNLIKE = (0, 1, -1, False, True, None, "", "1", "a", (), [], (1,), [1], (True,), [True], (0,), (False,), ((),), [()],
          ([],), (1, 2), (1, 3), (1, 2, 3), [1, 2], ((1, 2),), ((True, 2),), ([1, 2],), ("a", (1, ())), ("a", (True, ())))


class Same(unittest.TestCase):

    def test_same_as_itself_alone(self):
        for i, one in enumerate(UNLIKE):
            for j, other in enumerate(UNLIKE):
                self.assertIs(kept_whole(self, same, one, other), i == j, (one, other))

    def test_things_made_anew(self):
        for one in UNLIKE + (10 ** 200,):
            self.assertIs(same(one, ast.literal_eval(repr(one))), True)


if __name__ == "__main__":
    unittest.main()
