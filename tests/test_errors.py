"""The refusals of the interface: their classes and fields."""

import unittest

from ownchain.errors import ChainError, NoCode, NoName, NoRow, NoSheet, NoText

REFUSALS = (NoSheet, NoText, NoCode, NoRow, NoName)


def made_errors():
    return (NoSheet(3, "end"), NoText(7), NoCode(), NoRow(), NoName())


class Classes(unittest.TestCase):
    def test_chain_error_is_a_value_error_by_itself(self):
        self.assertTrue(issubclass(ChainError, ValueError))
        self.assertNotIsInstance(ChainError(), REFUSALS)

    def test_each_is_a_chain_error(self):
        for error in made_errors():
            self.assertIsInstance(error, ChainError)
            self.assertIsInstance(error, ValueError)

    def test_each_is_none_of_the_others(self):
        for number, error in enumerate(made_errors()):
            for other, refusal in enumerate(REFUSALS):
                self.assertEqual(isinstance(error, refusal), number == other, (error, refusal))

    def test_each_is_raised_and_taken_by_its_name(self):
        for error, refusal in zip(made_errors(), REFUSALS):
            with self.assertRaises(refusal):
                raise error
            with self.assertRaises(ChainError):
                raise error


class Fields(unittest.TestCase):
    def test_no_sheet_has_place_and_word(self):
        for place, word in ((0, "end"), (12, "range"), (13, "deep"), (3000, "over")):
            error = NoSheet(place, word)
            self.assertEqual((error.place, error.word), (place, word))
            named = NoSheet(place=place, word=word)
            self.assertEqual((named.place, named.word), (place, word))

    def test_no_text_has_at(self):
        for at in (0, 1, 6000):
            self.assertEqual(NoText(at).at, at)
            self.assertEqual(NoText(at=at).at, at)

    def test_fields_are_each_objects_own(self):
        first = NoSheet(1, "range")
        second = NoSheet(2, "over")
        self.assertEqual((first.place, first.word), (1, "range"))
        self.assertEqual((second.place, second.word), (2, "over"))


if __name__ == "__main__":
    unittest.main()
