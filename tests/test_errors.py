import unittest

from keelbond import errors
from keelbond.errors import BadText, KeelError, Overdrawn

PLAIN = [
    "BadPart", "BadName", "NoShip", "AtSea", "AtHome", "Full", "Crowded", "BadWorth", "BadLot", "Laden",
    "BadDays", "BadSum", "BadGain", "BadHeap", "Worthless", "BadFund", "NoClaim", "NotHired", "NoBack",
]


def refusals():
    """One object of each class of the list, by the class's name."""
    made = {name: getattr(errors, name)("words") for name in PLAIN}
    made["Overdrawn"] = Overdrawn((0, 2))
    made["BadText"] = BadText(3)
    return made


class Refusals(unittest.TestCase):
    def test_all_of_the_list_and_no_others_are_there(self):
        classes = [name for name, value in vars(errors).items() if isinstance(value, type)]
        self.assertEqual(sorted(classes), sorted(list(refusals()) + ["KeelError"]))

    def test_keel_error_stands_straight_under_value_error(self):
        self.assertEqual(KeelError.__bases__, (ValueError,))

    def test_each_stands_straight_under_keel_error(self):
        for name, made in refusals().items():
            with self.subTest(name):
                self.assertEqual(type(made).__name__, name)
                self.assertEqual(type(made).__bases__, (KeelError,))

    def test_each_is_a_keel_error_a_value_error_and_no_other_of_the_list(self):
        for name, made in refusals().items():
            with self.subTest(name):
                self.assertIsInstance(made, KeelError)
                self.assertIsInstance(made, ValueError)
                others = [other for other in refusals() if other != name]
                for other in others:
                    self.assertNotIsInstance(made, getattr(errors, other))

    def test_each_can_be_raised_and_taken_by_its_own_name(self):
        for name, made in refusals().items():
            with self.subTest(name):
                with self.assertRaises(getattr(errors, name)) as taken:
                    raise made
                self.assertIs(taken.exception, made)

    def test_each_is_called_by_its_class_in_small_letters(self):
        for name, made in refusals().items():
            self.assertEqual(made.called(), name.lower())
        self.assertEqual(KeelError("words").called(), "keelerror")


class Values(unittest.TestCase):
    def test_overdrawn_has_its_heap_when_it_is_made(self):
        for heap in [(), (0,), (1, 4, 5)]:
            self.assertEqual(Overdrawn(heap).heap, heap)

    def test_bad_text_has_its_line_when_it_is_made(self):
        for at in [0, 1, 10 ** 40]:
            self.assertEqual(BadText(at).at, at)

    def test_each_object_has_its_own_value(self):
        one, other = Overdrawn((0,)), Overdrawn((1,))
        self.assertEqual((one.heap, other.heap), ((0,), (1,)))
        one, other = BadText(1), BadText(2)
        self.assertEqual((one.at, other.at), (1, 2))

    def test_a_value_is_never_left_out(self):
        self.assertRaises(TypeError, Overdrawn)
        self.assertRaises(TypeError, BadText)


if __name__ == "__main__":
    unittest.main()
