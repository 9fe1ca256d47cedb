import unittest

from tests.plain import any_values
from wordskips import errors

FIELDS = {
    "BadLetters": ["letters"], "BadWords": ["place"], "BadText": ["place"], "BadWish": ["wish"],
    "BadWidth": ["width"], "TooMany": ["what", "many", "most"], "BadTree": ["state", "node"], "BadLine": ["line"],
    "BadWay": ["way"], "OtherLetters": [], "OtherWidth": [], "BadRule": ["name"], "Ring": ["name"],
    "NoRule": ["root"], "BadPlace": ["number"], "BadOver": [], "BadSize": ["size"], "BadOrder": ["order"],
    "NoJoint": ["joint"], "NoPartial": ["partial"],
}


class Errors(unittest.TestCase):

    def check_fields(self, error, fields, values):
        for field, value in zip(fields, values):
            self.assertEqual(getattr(error, field), value)
            self.assertIs(type(getattr(error, field)), type(value))

    def test_fields_by_position_and_by_name(self):
        values = any_values() + [0, 1, "ab", "letters", 64]
        for name, fields in FIELDS.items():
            kind = getattr(errors, name)
            for at in range(len(values)):
                taken = [values[(at + step) % len(values)] for step in range(len(fields))]
                self.check_fields(kind(*taken), fields, taken)
                self.check_fields(kind(**dict(zip(fields, taken))), fields, taken)
                backwards = dict(reversed(list(zip(fields, taken))))
                self.check_fields(kind(**backwards), fields, taken)

    def test_each_one_is_directly_below(self):
        self.assertEqual(errors.SkipsError.__bases__, (ValueError,))
        for name in FIELDS:
            self.assertEqual(getattr(errors, name).__bases__, (errors.SkipsError,))
            self.assertEqual(getattr(errors, name).__module__, "wordskips.errors")

    def test_each_one_is_none_of_the_others(self):
        for name, fields in FIELDS.items():
            with self.assertRaises(ValueError) as caught:
                raise getattr(errors, name)(*[None for _ in fields])
            self.assertIsInstance(caught.exception, errors.SkipsError)
            held = [other for other in FIELDS if isinstance(caught.exception, getattr(errors, other))]
            self.assertEqual(held, [name])

    def test_there_are_no_other_errors(self):
        found = [name for name, value in vars(errors).items() if isinstance(value, type)]
        self.assertEqual(sorted(found), sorted([*FIELDS, "SkipsError"]))

    def test_wrong_numbers_of_fields(self):
        for name, fields in FIELDS.items():
            kind = getattr(errors, name)
            with self.assertRaises(TypeError):
                kind(**{field: 1 for field in fields}, other=1)
            if fields:
                with self.assertRaises(TypeError):
                    kind()

    def test_a_field_is_a_copy(self):
        value = [["a"], ({"b": [1]}, 2)]
        for name, fields in FIELDS.items():
            for field in fields:
                passed = [["a"], ({"b": [1]}, 2)]
                error = getattr(errors, name)(**{other: passed for other in fields})
                passed[0].append("x")
                passed[1][0]["b"].append(2)
                passed.append(3)
                self.assertEqual(getattr(error, field), value)

    def test_an_error_can_be_shown(self):
        for name, fields in FIELDS.items():
            error = getattr(errors, name)(*[10 ** 39 for _ in fields])
            self.assertIsInstance(str(error), str)


if __name__ == "__main__":
    unittest.main()
