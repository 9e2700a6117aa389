import unittest

from nomoretold import errors

FIELDS = {
    "BadTable": None, "BadPart": None, "BadTalk": "way", "BadThing": None, "NoWay": None, "Knotted": "part",
    "BadOdds": None, "NotPlain": None, "NotRight": None, "TooGreat": "most", "BadLots": None, "TooMany": "most",
    "BadNumber": None, "Unlike": None, "NotText": None, "InvalidText": "place", "Twice": "name",
    "Unknown": "name", "NoThing": "thing", "Doubled": "thing", "Lacking": "thing", "Needless": None,
    "BadVote": None, "BadThings": None, "BadLot": None, "BadSquare": None, "BadBits": None, "BadCoins": None,
    "BadPrime": None, "BadSecret": None, "BadPoints": None, "BadSheet": "index", "TooFew": None,
    "BadWho": None, "NothingSaid": None, "InvalidLine": "at",
}

FIELD_VALUES = [None, 0, 400, "low", (), (0, 1), ((0, 1), (0, 1)), 10 ** 5000]


class Errors(unittest.TestCase):
    def test_there_are_just_these(self):
        classes = {name for name, value in vars(errors).items() if isinstance(value, type)}
        self.assertEqual(len(FIELDS), 36)
        self.assertEqual(classes, set(FIELDS) | {"TellError"})

    def test_the_base_is_a_value_error(self):
        self.assertEqual(errors.TellError.__bases__, (ValueError,))

    def test_each_is_a_direct_subclass_defined_there(self):
        for name in FIELDS:
            with self.subTest(name):
                self.assertEqual(getattr(errors, name).__bases__, (errors.TellError,))
                self.assertEqual(getattr(errors, name).__module__, "nomoretold.errors")

    def test_fields_are_set_when_created(self):
        for name, field in FIELDS.items():
            for value in FIELD_VALUES if field else []:
                with self.subTest(name):
                    made = getattr(errors, name)
                    self.assertEqual(vars(made(value)), {field: value})
                    self.assertEqual(vars(made(**{field: value})), {field: value})
                    self.assertIsInstance(str(made(value)), str)

    def test_a_field_is_due(self):
        for name, field in FIELDS.items():
            if field:
                with self.subTest(name):
                    self.assertRaises(TypeError, getattr(errors, name))

    def test_those_without_fields_have_none(self):
        for name, field in FIELDS.items():
            if not field:
                with self.subTest(name):
                    self.assertEqual(vars(getattr(errors, name)()), {})

    def test_all_can_be_caught_by_the_base(self):
        for name, field in FIELDS.items():
            with self.subTest(name), self.assertRaises(errors.TellError):
                made = getattr(errors, name)
                raise made(0) if field else made()


if __name__ == "__main__":
    unittest.main()
