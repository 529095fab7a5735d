"""The refusals, each of its own."""

import unittest

from needplan import errors
from needplan.errors import NeedError, NoBuy, NoDay, NoName, NoPlan, NoShop, NoText, Ring

REFUSALS = (NoText, NoShop, Ring, NoName, NoDay, NoBuy, NoPlan)


class Refusals(unittest.TestCase):
    def test_all_stand_straight_under_need_error(self):
        self.assertEqual(NeedError.__bases__, (ValueError,))
        for refusal in REFUSALS:
            with self.subTest(refusal=refusal):
                self.assertEqual(refusal.__bases__, (NeedError,))

    def test_names(self):
        names = ("NoText", "NoShop", "Ring", "NoName", "NoDay", "NoBuy", "NoPlan")
        self.assertEqual(tuple(refusal.__name__ for refusal in REFUSALS), names)
        for name, refusal in zip(names, REFUSALS):
            self.assertIs(getattr(errors, name), refusal)
        self.assertEqual(len(set(REFUSALS)), 7)

    def test_each_is_taken_as_any_refusal_and_as_none_of_the_others(self):
        for refusal in REFUSALS:
            for taken in (refusal, NeedError, ValueError):
                with self.subTest(refusal=refusal, taken=taken), self.assertRaises(taken):
                    raise refusal("words")
            for other in REFUSALS:
                if other is not refusal:
                    self.assertFalse(issubclass(refusal, other), (refusal, other))
            self.assertFalse(issubclass(NeedError, refusal))


if __name__ == "__main__":
    unittest.main()
