"""Errors: point 9."""

import unittest

from tenanthall import errors

FAMILIES = {
    "PaperError": {"NoPaper": ("word", "at")},
    "HallError": {"NoTenant": ("name",), "NoHall": ("word", "at"), "NoBack": ("times",)},
    "TextError": {"NoText": ("line", "word"), "NoLine": ("line",)},
}


class Untouchable:
    """A thing that can't be looked at in any way."""

    def __getattribute__(self, name):
        raise AssertionError(f"looked at by {name}")

    __eq__ = __hash__ = __bool__ = __len__ = __iter__ = __repr__ = __str__ = None


def refusals():
    return [(getattr(errors, family), getattr(errors, name), fields)
            for family, names in FAMILIES.items() for name, fields in names.items()]


class Errors(unittest.TestCase):

    def test_families_stand_straight_under_the_base(self):
        self.assertEqual(errors.TenantError.__bases__, (ValueError,))
        for family in FAMILIES:
            self.assertEqual(getattr(errors, family).__bases__, (errors.TenantError,))

    def test_refusals_stand_straight_under_their_families(self):
        for family, refused, _ in refusals():
            self.assertEqual(refused.__bases__, (family,))

    def test_made_by_place_and_by_name_with_just_these_fields(self):
        for _, refused, fields in refusals():
            things = [[field, (1, [2])] for field in fields]
            for made in (refused(*things), refused(**dict(zip(fields, things)))):
                self.assertEqual(list(vars(made)), list(fields))
                for field, thing in zip(fields, things):
                    self.assertIs(getattr(made, field), thing)

    def test_looks_at_things_in_no_way(self):
        for _, refused, fields in refusals():
            things = [Untouchable() for _ in fields]
            for made in (refused(*things), refused(**dict(zip(fields, things)))):
                for field, thing in zip(fields, things):
                    self.assertIs(getattr(made, field), thing)

    def test_taken_by_each_of_its_names_and_by_no_other_family(self):
        families = [getattr(errors, name) for name in FAMILIES]
        for family, refused, fields in refusals():
            for name in (refused, family, errors.TenantError, ValueError):
                with self.assertRaises(name):
                    raise refused(*fields)
            for other in families:
                self.assertEqual(issubclass(refused, other), other is family)

    def test_made_of_just_its_fields(self):
        for _, refused, fields in refusals():
            for many in (len(fields) - 1, len(fields) + 1):
                with self.assertRaises(TypeError):
                    refused(*["x"] * many)


if __name__ == "__main__":
    unittest.main()
