"""Promise 1: the errors."""

from twinbegun import errors
from tests.checks import FIELDS, ODD, Checks

BASES = {"UnknownName": errors.Missing, "NothingLeft": IndexError}


class Errors(Checks):
    def test_each_has_its_code_and_attributes_by_position(self):
        for name, fields in FIELDS.items():
            for value in ODD:
                values = [value, (value, 1)][:len(fields)]
                error = getattr(errors, name)(*values)
                self.assert_same(error.code, name)
                self.assert_same([getattr(error, field) for field in fields], values)

    def test_each_has_its_attributes_by_name(self):
        for name, fields in FIELDS.items():
            for value in ODD:
                values = dict(zip(fields, [value, [value, 2]]))
                error = getattr(errors, name)(**values)
                self.assert_same(error.code, name)
                self.assert_same({field: getattr(error, field) for field in fields}, values)

    def test_the_first_and_the_last_place_of_a_range(self):
        error = errors.InvalidRange(3, last="x")
        self.assert_same((error.first, error.last), (3, "x"))
        error = errors.InvalidRange(last=1, first=None)
        self.assert_same((error.first, error.last), (None, 1))

    def test_direct_bases(self):
        self.assertEqual(errors.TwinError.__bases__, (ValueError,))
        self.assertEqual(errors.Missing.__bases__, (LookupError,))
        for name in FIELDS:
            base = BASES.get(name, errors.TwinError)
            self.assertEqual(getattr(errors, name).__bases__, (base,), name)

    def test_no_other_class_of_the_package_is_a_base(self):
        classes = [getattr(errors, name) for name in [*FIELDS, "TwinError", "Missing"]]
        for one in classes:
            self.assertEqual(one.__module__, "twinbegun.errors")
            for other in classes:
                expected = one is other or other in one.__bases__
                self.assertEqual(issubclass(one, other), expected, (one, other))

    def test_names_of_the_classes(self):
        for name in [*FIELDS, "TwinError", "Missing"]:
            self.assertEqual(getattr(errors, name).__name__, name)

    def test_each_can_be_caught_by_its_bases(self):
        for name, fields in FIELDS.items():
            made = getattr(errors, name)
            for base in made.__mro__[:-1]:
                with self.assertRaises(base):
                    raise made(*[0 for _ in fields])

    def test_codes_belong_to_the_objects(self):
        one = errors.InvalidPlace(1)
        other = errors.InvalidPlace(2)
        self.assert_same((one.given, other.given), (1, 2))
        self.assert_same((errors.Full(200).most, errors.TooWide(most=8).most), (200, 8))
