"""Point [4]: the errors and what they hold."""

import unittest

from rulehouse import errors
from rulehouse.facts import Facts

INDEXED = """BadBody BadDenial BadFact BadFees BadFold BadLetter BadLine BadPromise BadRecord BadRule BadSome BadStep BadTake
    BadTimes BadViews BadWrite HasNot HasUnlike MadeWrite NoPart NoWay NotPlain""".split()
OF_THINGS = """BadCall BadCalls BadChances BadContents BadDeed BadKind BadLevels BadNumber BadOrder BadPage BadPlan
    BadPolynomial BadPrices BadProduct BadQuestion BadWorths NoAtom NoFact NoRuleThing NoText NotGiven""".split()
OTHERS = {
    "BadText": ["line"], "BadWidth": ["width"], "BothWays": ["fact"], "Broken": ["name", "match"],
    "Busy": ["page", "other"], "Ended": ["name"], "IsMade": ["relation"], "LogBehind": ["page"],
    "Loose": ["index", "letter"], "NoDealing": ["name"], "NoIndex": ["contents"], "NoName": ["name"],
    "NoPage": ["page"], "NoPromise": ["number"], "NoRepair": [], "NoRule": ["number"], "NoVersion": ["number"],
    "NotOpen": ["name"], "RingThroughNot": ["ring"], "Ringed": ["relation"], "TakenName": ["name"],
    "Uneven": ["index", "relation"], "Unsafe": ["index", "letter"],
}
ALL = {**{name: ["index"] for name in INDEXED}, **{name: ["thing"] for name in OF_THINGS}, **OTHERS}


class Errors(unittest.TestCase):
    def test_all_are_there(self):
        self.assertEqual(len(ALL), 66)
        told = {name for name in vars(errors) if isinstance(getattr(errors, name), type)}
        self.assertEqual(told, set(ALL) | {"HouseError"})

    def test_all_are_direct_subclasses(self):
        self.assertEqual(errors.HouseError.__bases__, (ValueError,))
        for name in ALL:
            self.assertEqual(getattr(errors, name).__bases__, (errors.HouseError,), name)

    def test_they_hold_the_very_things(self):
        for name, parameters in ALL.items():
            for thing in ([1], {"a": 1}, Facts([]), None, True, "x"):
                things = [thing] + [object() for _ in parameters]
                made = getattr(errors, name)(*things[:len(parameters)])
                named = getattr(errors, name)(**dict(zip(parameters, things)))
                for parameter, held in zip(parameters, things):
                    self.assertIs(getattr(made, parameter), held)
                    self.assertIs(getattr(named, parameter), held)

    def test_house_error_has_no_parameters(self):
        self.assertIsInstance(errors.HouseError(), ValueError)
        self.assertRaises(TypeError, errors.HouseError, 1)
        self.assertRaises(TypeError, errors.NoRepair, 1)
        self.assertRaises(TypeError, errors.BadBody)

    def test_they_can_be_raised_and_caught(self):
        with self.assertRaises(errors.HouseError) as caught:
            raise errors.Unsafe(1, "X")
        self.assertEqual((caught.exception.index, caught.exception.letter), (1, "X"))


if __name__ == "__main__":
    unittest.main()
