"""errors.py: the error classes and their attributes."""

import unittest

from weirkeepers import errors

PARAMETERS = {
    "NotRiver": ["place"], "NotRights": ["place"], "NotText": ["line"], "NoWeir": ["name"], "NoRight": ["name"],
    "NotDown": ["high", "low"], "NotSprings": ["weir"], "NotDay": ["key"], "NotSharing": ["name"],
    "NotWorths": ["name"], "NotBook": ["cause", "weir", "name"], "NotFirstKind": ["kind"],
    "RingError": ["weir", "names"], "NotColumn": ["column"], "NotEnd": ["columns"], "NotTurn": ["name"],
    "NotSettled": ["name"], "NotTanks": ["name"], "NotEntry": ["cause"], "NotLots": ["place"], "NotMove": ["name"],
    "NotLedger": ["place", "cause"], "TooMany": ["number"],
}


class ErrorsTest(unittest.TestCase):

    def test_all_are_there_directly_under_the_base(self):
        self.assertEqual(errors.WeirError.__bases__, (ValueError,))
        found = [thing for thing in vars(errors).values() if isinstance(thing, type)]
        self.assertEqual(sorted(error.__name__ for error in found), sorted(["WeirError"] + list(PARAMETERS)))
        for word in PARAMETERS:
            self.assertEqual(getattr(errors, word).__bases__, (errors.WeirError,))

    def test_parameters_are_attributes_by_position_and_by_name(self):
        for word, names in PARAMETERS.items():
            values = [["any", (1, None)], "b", -1][:len(names)]
            error = getattr(errors, word)(*values)
            self.assertEqual(vars(error), dict(zip(names, values)))
            error = getattr(errors, word)(**dict(zip(names, values)))
            self.assertEqual(vars(error), dict(zip(names, values)))
            self.assertIsInstance(str(error), str)


if __name__ == "__main__":
    unittest.main()
