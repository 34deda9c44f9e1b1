"""[1], [5]: names, and the words that tell them."""

from manyheads import words
from helpers import ANYTHING, Case, FOOT, HEAD


class Names(Case):

    def test_whole(self):
        for thing in (0, 1, -1, 10 ** 50):
            self.assertIs(words.is_whole(thing), True)
        for thing in (True, False, None, "1", [1], (1,), {}, b"1"):
            self.assertIs(words.is_whole(thing), False)

    def test_among(self):
        for thing in (2, 3, 4):
            self.assertIs(words.is_among(thing, 2, 4), True)
        for thing in (1, 5, -3, 10 ** 50, "3", [3], None):
            self.assertIs(words.is_among(thing, 2, 4), False)
        self.assertIs(words.is_among(True, 0, 1), False)
        self.assertIs(words.is_among(False, 0, 1), False)
        self.assertIs(words.is_among(1, 1, 1), True)
        self.assertIs(words.is_among(1, 2, 0), False)

    def test_word(self):
        for thing in ("a", "z", "abcdefgh", "head", "foot", "none"):
            self.assertIs(words.is_word(thing), True)
        for thing in ("", "abcdefghi", "A", "aB", "a1", "a ", " a", "a.b", "a\n", b"a", ["a"], ("a",), None, True, "Ab", "AB",
                      "\u00e9", "a\u00df", "\u0430", "\u00aa", "\uff41", "a_", "a-b", "a" * 10 ** 6, "1", "_"):
            self.assertIs(words.is_word(thing), False)

    def test_hand(self):
        for thing in ("a", "abcdefgh", "heads", "hea", "nones", "foots"):
            self.assertIs(words.is_hand(thing), True)
        for thing in ("", "abcdefghi", "head", "foot", "none", "A", "a1", b"a", ["a"], None, 1, "\u00e9", "a\u00df", "aA"):
            self.assertIs(words.is_hand(thing), False)

    def test_name(self):
        for thing in (("a", 1), ("a", 999), ("abcdefgh", 10), ("heads", 1)):
            self.assertIs(words.is_name(thing), True)
        for thing in (("a", 0), ("a", 1000), ("a", -1), ("a", True), ("a", "1"), ["a", 1], ("a",), ("a", 1, 1),
                      ("head", 1), ("foot", 1), ("none", 1), ("", 1), ("abcdefghi", 1), "a1", "a.1", (1, "a")):
            self.assertIs(words.is_name(thing), False)

    def test_put_line(self):
        for thing in (("a", 1, 1), ("a", 999, 1), ("a", 1, 10 ** 60), ("a", 1, 80000)):
            self.assertIs(words.is_put_line(thing), True)
        for thing in (("a", 1, 0), ("a", 1, -1), ("a", 1, True), ("a", True, 1), ("a", 0, 1), ("a", 1000, 1),
                      ["a", 1, 1], ("a", 1), ("a", 1, 1, 1), ("head", 1, 1), HEAD, FOOT, "a.1.1"):
            self.assertIs(words.is_put_line(thing), False)

    def test_texts_and_whole_numbers(self):
        for thing in (("a", 1), ("", 0), ("Any text", -10 ** 30)):
            self.assertIs(words.is_pair(thing), True)
            self.assertIs(words.is_triple((*thing, 5)), True)
        for thing in (("a", True), ("a", False), ("a", None), (None, 1), (b"a", 1), (1, "a"), ["a", 1], ("a",), (), ("a", 1, 1), "a1"):
            self.assertIs(words.is_pair(thing), False)
        for thing in (("a", 1, True), ("a", 1, False), ("a", 1, None), ("a", True, 1), ("a", False, 1), ("a", "1", 1), (None, 1, 1), (b"a", 1, 1),
                      ["a", 1, 1], ("a", 1), ("a", 1, 1, 1), "a11"):
            self.assertIs(words.is_triple(thing), False)

    def test_end(self):
        self.assertIs(words.is_end(HEAD), True)
        self.assertIs(words.is_end(FOOT), True)
        for thing in (("", 0, 2), ("", 0, -1), ("", 1, 0), ("", -1, 0), ("", 0), ["", 0, 0], ("", False, 0),
                      ("", 0, False), ("", 0, True), ("", False, True), ("a", 0, 0), ("a", 1, 1), (b"", 0, 0),
                      "head", "foot"):
            self.assertIs(words.is_end(thing), False)

    def test_of_anything(self):
        asked = [words.is_word, words.is_hand, words.is_name, words.is_put_line, words.is_end]
        for thing in ANYTHING:
            for ask in asked:
                self.assertIs(ask(thing), False)
            self.assertIn(words.is_whole(thing), (True, False))
            self.assertIn(words.is_among(thing, 1, 9), (True, False))
            self.assertIs(words.is_among(1, thing, None), False)
            self.assertIs(words.is_among(1, None, thing), False)
            self.assertIs(words.is_among(thing, [], {}), False)


class Words(Case):

    def test_number_of(self):
        for word, number in (("1", 1), ("9", 9), ("10", 10), ("999999", 999999), ("100000", 100000)):
            self.assertEqual(words.number_of(word), number)
        for word in ("0", "01", "00", "007", "1000000", "1234567", "", "-1", "+1", "1.0", "1_0", " 1", "1 ", "1\n",
                     "a", "1a", "\u0663", "\u00b2", "1\u0663", "\uff11", "9" * 10 ** 6, 1, True, None, ["1"], ("1",), b"1"):
            self.assertIsNone(words.number_of(word), word)

    def test_count_of(self):
        for word, number in (("0", 0), ("1", 1), ("10", 10), ("999999", 999999), ("1000000", 10 ** 6), ("9" * 6000, 10 ** 6000 - 1),
                             ("1" + "0" * 2999, 10 ** 2999)):
            self.assertEqual(words.count_of(word), number)
        for word in ("", "00", "01", "007", "-1", "+1", "1.0", "1_0", " 1", "1 ", "1\n", "a", "\u0663", "\u00b2", "none"):
            self.assertIsNone(words.count_of(word), word)
        for thing in ANYTHING:
            self.assertIsNone(words.count_of(thing))

    def test_name_of(self):
        for word, name in (("a.1", ("a", 1)), ("abcdefgh.999", ("abcdefgh", 999))):
            self.assertEqual(words.name_of(word), name)
        for word in ("a.0", "a.01", "a.1000", "a.1000000", "a", "a.", ".1", "a.1.1", "head.1", "none", "head", "A.1",
                     "abcdefghi.1", "a..1", "a.1 ", "a 1", "", ".", ("a", 1), None, b"a.1"):
            self.assertIsNone(words.name_of(word), word)

    def test_line_of(self):
        for word, line in (("head", HEAD), ("foot", FOOT), ("a.1.1", ("a", 1, 1)),
                           ("a.999.999999", ("a", 999, 999999))):
            self.assertEqual(words.line_of(word), line)
        for word in ("a.1", "a.1.0", "a.1.01", "a.01.1", "a.1000.1", "a.1.1000000", "none", "Head", "head ", "foot.1.1",
                     "a.1.1.1", "a.1.", "..", "", "abcdefghi.1.1", ("a", 1, 1), HEAD, None, b"head"):
            self.assertIsNone(words.line_of(word), word)

    def test_texts(self):
        self.assertEqual(words.name_text(("ann", 17)), "ann.17")
        self.assertEqual(words.line_text(("ann", 17, 3)), "ann.17.3")
        self.assertEqual(words.line_text(HEAD), "head")
        self.assertEqual(words.line_text(FOOT), "foot")
        for name in (("a", 1), ("abcdefgh", 999)):
            self.assertEqual(words.name_of(words.name_text(name)), name)
        for line in (HEAD, FOOT, ("a", 1, 1), ("abcdefgh", 999, 999999)):
            self.assertEqual(words.line_of(words.line_text(line)), line)

    def test_words_of(self):
        self.assertEqual(words.words_of("patch ann 1"), ["patch", "ann", "1"])
        self.assertEqual(words.words_of("+"), ["+"])
        self.assertEqual(words.words_of("a"), ["a"])
        for row in ("", " ", "  ", " a", "a ", "a  b", "a b ", " a b", "a   b"):
            self.assertIsNone(words.words_of(row), row)

    def test_words_told_are_the_askers_own(self):
        told = words.words_of("a b")
        told.append("c")
        self.assertEqual(words.words_of("a b"), ["a", "b"])

    def test_of_anything(self):
        asked = [words.number_of, words.name_of, words.line_of, words.words_of]
        for thing in ANYTHING:
            for ask in asked:
                if not isinstance(thing, str):
                    self.assertIsNone(ask(thing))
        for row in ("Ab", "ninesigns", "\n"):
            self.assertEqual(words.words_of(row), [row])
