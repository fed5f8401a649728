"""The kinds: their words [8] and parts [5]."""

import unittest

from ownchain.kinds import kind_of, parts_of, word_of

WORDS = {
    2: "set", 3: "all", 4: "pick", 5: "loop", 6: "call", 7: "fail", 8: "add", 9: "sub", 10: "mul", 11: "quo",
    12: "rest", 13: "less", 14: "same", 15: "push", 16: "at", 17: "put", 18: "size", 19: "new",
}
PARTS = {7: 1, 8: 2, 9: 2, 10: 2, 11: 2, 12: 2, 13: 2, 14: 2, 15: 2, 16: 2, 17: 3, 18: 1, 19: 0}


class Words(unittest.TestCase):
    def test_word_of_each_kind(self):
        for kind, word in WORDS.items():
            self.assertEqual(word_of(kind), word)

    def test_kind_of_each_word(self):
        for kind, word in WORDS.items():
            self.assertEqual(kind_of(word), kind)
            self.assertIs(type(kind_of(word)), int)

    def test_other_words_of_the_document_are_no_kinds(self):
        for word in ("fun", "with", "is", "number", "get", "box", "drop", "jump", "unless", "back", "breath", "do"):
            self.assertIsNone(kind_of(word), word)

    def test_texts_of_other_signs(self):
        for text in ("", " ", "\n", "0", "2", "19", "-1", "~", "set add", "None"):
            self.assertIsNone(kind_of(text), text)

    def test_texts_beside_a_word(self):
        words = list(WORDS.values())
        for word in words:
            beside = [word.upper(), word.capitalize(), word[:-1] + word[-1].upper()]
            beside += [" " + word, word + " ", word + "\n", word + "0", word + word]
            for cut in range(len(word)):
                beside.append(word[:cut] + word[cut + 1:])
                for letter in "abcdefghijklmnopqrstuvwxyz":
                    beside.append(word[:cut] + letter + word[cut + 1:])
                    beside.append(word[:cut] + letter + word[cut:])
                    beside.append(word + letter)
            for text in beside:
                if text not in words:
                    self.assertIsNone(kind_of(text), text)


class Parts(unittest.TestCase):
    def test_parts_of_each_kind_from_fail_on(self):
        for kind, parts in PARTS.items():
            self.assertEqual(parts_of(kind), parts, kind)


if __name__ == "__main__":
    unittest.main()
