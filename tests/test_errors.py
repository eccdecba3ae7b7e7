import copy
import unittest

from tests.helper import nested
from wholestakes import errors

FIELDS = {
    "BadTrack": "part", "NoPlace": None, "NoLetter": None, "NoRow": None, "NoNumber": None, "TooMany": "most",
    "TooLong": "most", "NoNames": None, "NoPay": None, "NoCoins": None, "NoStake": None, "NoLot": None,
    "NoGoals": None, "NotHopeful": None, "NoLimit": None, "BadStake": "row", "Grows": None, "BadLetter": "row",
    "NoTable": None, "TooFew": "least", "NothingDone": None, "BadText": "line", "NoLine": None, "NoName": "name",
    "NoText": None, "NoFee": None, "NoChances": None, "NoPlan": None,
}


class ErrorsTest(unittest.TestCase):
    def test_all_errors_of_the_list_are_there_and_no_others(self):
        found = {name for name in vars(errors) if isinstance(vars(errors)[name], type)}
        self.assertEqual(found, set(FIELDS) | {"StakeError"})

    def test_what_they_derive_from(self):
        self.assertEqual(errors.StakeError.__bases__, (ValueError,))
        for name in FIELDS:
            self.assertEqual(getattr(errors, name).__bases__, (errors.StakeError,), name)
            self.assertEqual(getattr(errors, name).__module__, "wholestakes.errors")

    def test_fields_are_kept_as_passed(self):
        things = [None, True, 0, -1, 10 ** 39, "", "twice", [], [1], {"a": []}, (1, 2), b"a", object(), errors.NoRow()]
        things.append(nested(36, None))
        for name, field in FIELDS.items():
            for thing in things if field else []:
                error = getattr(errors, name)(thing)
                self.assertEqual(list(vars(error)), [field], name)
                self.assertIs(getattr(error, field), thing)

    def test_errors_without_fields_have_none(self):
        for name, field in FIELDS.items():
            if field is None:
                self.assertEqual(vars(getattr(errors, name)()), {}, name)

    def test_they_are_made_with_just_their_fields(self):
        for name, field in FIELDS.items():
            kind = getattr(errors, name)
            self.assertRaises(TypeError, kind, *([1, 2] if field else [1]))
            if field:
                self.assertRaises(TypeError, kind)

    def test_a_copy_keeps_the_field(self):
        self.assertEqual(copy.copy(errors.TooMany(2000)).most, 2000)


if __name__ == "__main__":
    unittest.main()
