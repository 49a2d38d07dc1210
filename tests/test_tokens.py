import unittest

from keptbindings.errors import BadText
from keptbindings.tokens import is_name, tokens

WORDS = (
    "import from as def class global nonlocal if else while for in return break continue pass "
    "and or not fn none true false"
).split()
SIGNS = "( ) [ ] { } , ; : . = == < <= + - *".split()


class Unlike:
    """A value that cannot be hashed or compared."""

    __hash__ = None

    def __eq__(self, other):
        raise TypeError("no equality")


NO_TEXTS = [None, True, False, 0, 1, 2.5, b"", b"a", [], ["a"], (), ("a",), {}, {"a": 1}, set(), object(), Unlike()]


class IsNameTest(unittest.TestCase):
    def test_names(self):
        for value in ("a", "z", "a1", "a_", "a__b", "x9_y", "len", "range", "show", "start", "self", "ifs", "fn2"):
            self.assertIs(is_name(value), True, value)

    def test_lengths(self):
        self.assertIs(is_name("a"), True)
        self.assertIs(is_name("a" * 20), True)
        self.assertIs(is_name("a" * 21), False)
        self.assertIs(is_name("a234567890_234567890"), True)
        self.assertIs(is_name("a234567890_2345678901"), False)
        self.assertIs(is_name(""), False)

    def test_words_are_none(self):
        self.assertEqual(len(WORDS), 23)
        for word in WORDS:
            self.assertIs(is_name(word), False, word)
            self.assertIs(is_name(word + "_"), True, word)

    def test_first_character(self):
        for value in ("1a", "_a", "_", "0", "9", "__"):
            self.assertIs(is_name(value), False, value)

    def test_other_characters(self):
        for value in ("A", "aB", "a b", " a", "a ", "a\n", "\n", "a.b", "a-b", "\u00e4", "a\u00e4", "a\u0661", "a'", "\ud800"):
            self.assertIs(is_name(value), False, repr(value))

    def test_values_that_are_no_texts(self):
        for value in NO_TEXTS:
            self.assertIs(is_name(value), False)

    def test_by_name(self):
        self.assertIs(is_name(value="a"), True)


class TokensTest(unittest.TestCase):
    def bad(self, text):
        with self.assertRaises(BadText) as caught:
            tokens(text)
        return caught.exception.at

    def test_example_of_the_document(self):
        self.assertEqual(tokens("a <= 'b c' # d"), [("name", "a", 0), ("sign", "<=", 2), ("text", "'b c'", 5)])

    def test_by_name_and_new(self):
        self.assertEqual(tokens(text="a"), [("name", "a", 0)])
        tokens("a").append(1)
        self.assertEqual(tokens("a"), [("name", "a", 0)])

    def test_no_tokens(self):
        for text in ("", " ", "\n", "  \n \n", "#", "# a", "# a\n", "#\n#", " # 'a \n\n  # \tB \u00e4"):
            self.assertEqual(tokens(text), [], repr(text))

    def test_all_signs(self):
        for sign in SIGNS:
            self.assertEqual(tokens(sign), [("sign", sign, 0)])
            self.assertEqual(tokens("a" + sign + "a"), [("name", "a", 0), ("sign", sign, 1), ("name", "a", 1 + len(sign))])

    def test_all_words(self):
        for word in WORDS:
            self.assertEqual(tokens(word), [("word", word, 0)])

    def test_all_kinds_without_blanks(self):
        self.assertEqual(
            tokens("if(a1_==10)'x'fn"),
            [
                ("word", "if", 0),
                ("sign", "(", 2),
                ("name", "a1_", 3),
                ("sign", "==", 6),
                ("number", "10", 8),
                ("sign", ")", 10),
                ("text", "'x'", 11),
                ("word", "fn", 14),
            ],
        )

    def test_all_kinds_with_blanks_line_feeds_and_comments(self):
        self.assertEqual(
            tokens("\n if # if (\n(  a\n'x'#\n10 \n"),
            [("word", "if", 2), ("sign", "(", 12), ("name", "a", 15), ("text", "'x'", 17), ("number", "10", 22)],
        )

    def test_longest_sign(self):
        for text, signs in (
            ("==", ["=="]),
            ("===", ["==", "="]),
            ("====", ["==", "=="]),
            ("<=", ["<="]),
            ("<==", ["<=", "="]),
            ("=<=", ["=", "<="]),
            ("==<", ["==", "<"]),
            ("<<", ["<", "<"]),
            ("= =", ["=", "="]),
            ("< =", ["<", "="]),
        ):
            self.assertEqual([one[1] for one in tokens(text)], signs, text)

    def test_a_run_is_one_token(self):
        self.assertEqual(tokens("ifx"), [("name", "ifx", 0)])
        self.assertEqual(tokens("fn1"), [("name", "fn1", 0)])
        self.assertEqual(tokens("true_"), [("name", "true_", 0)])
        self.assertEqual(tokens("a-1"), [("name", "a", 0), ("sign", "-", 1), ("number", "1", 2)])

    def test_wrong_runs(self):
        for run in ("1a", "_", "_a", "12_", "1_000", "0x1", "a" * 21, "1if", "_if", "9" * 19, "00", "01", "012"):
            self.assertEqual(self.bad(run), 0, run)
            self.assertEqual(self.bad("a = " + run + ";"), 4, run)

    def test_numbers(self):
        for number in ("0", "1", "9", "10", "123456789012345678", "9" * 18):
            self.assertEqual(tokens(number), [("number", number, 0)])
        self.assertEqual(self.bad("1234567890123456789"), 0)
        self.assertEqual(self.bad("(0123)"), 1)
        self.assertEqual(self.bad("\u0661"), 0)
        self.assertEqual(tokens("1.2")[1:], [("sign", ".", 1), ("number", "2", 2)])

    def test_names_of_20_and_21_characters(self):
        self.assertEqual(tokens("b" * 20), [("name", "b" * 20, 0)])
        self.assertEqual(self.bad(" " + "b" * 21), 1)

    def test_texts(self):
        for inner in ("", " ", "a", "#", "\t", "A", "\u00e4", "\\", '"', "x" * 40, "# no comment", "\r", "\ud800"):
            text = "'" + inner + "'"
            self.assertEqual(tokens(text), [("text", text, 0)], repr(text))
        self.assertEqual(tokens("'a''b'"), [("text", "'a'", 0), ("text", "'b'", 3)])

    def test_wrong_texts(self):
        self.assertEqual(self.bad("'" + "x" * 41 + "'"), 0)
        self.assertEqual(self.bad("a '" + "x" * 41 + "' '"), 2)
        self.assertEqual(self.bad("'a\nb'"), 0)
        self.assertEqual(self.bad("'\n'"), 0)
        self.assertEqual(self.bad(" '"), 1)
        self.assertEqual(self.bad("x = 'abc;"), 4)
        self.assertEqual(self.bad("'a' 'b"), 4)
        self.assertEqual(self.bad("'" + "x" * 40), 0)

    def test_comments(self):
        self.assertEqual(tokens("a # b"), [("name", "a", 0)])
        self.assertEqual(tokens("a#b\nc"), [("name", "a", 0), ("name", "c", 4)])
        self.assertEqual(tokens("# A\t'\u00e4 $ # \n;"), [("sign", ";", 12)])

    def test_characters_that_stand_nowhere(self):
        for char in "A Z \t \r ! ? $ / \\ > \" & | ^ ~ @ \u00e4 \u20ac \u00a0 \u0131 \x00 \U0001f600".split(" "):
            self.assertEqual(self.bad(char), 0, repr(char))
            self.assertEqual(self.bad("ab = 1; " + char), 8, repr(char))
        self.assertEqual(self.bad("aB"), 1)
        self.assertEqual(self.bad("a\tb"), 1)
        self.assertEqual(self.bad("a != b"), 2)
        self.assertEqual(self.bad("a >= b"), 2)

    def test_the_first_wrong_piece_is_told(self):
        self.assertEqual(self.bad("a 01 $ 'x"), 2)
        self.assertEqual(self.bad("a $ 01"), 2)

    def test_lengths(self):
        self.assertEqual(tokens(" " * 4999 + "a"), [("name", "a", 4999)])
        self.assertEqual(tokens("#" * 5000), [])
        self.assertIsNone(self.bad(" " * 5001))
        self.assertIsNone(self.bad("$" * 5001))
        self.assertEqual(self.bad("$" * 5000), 0)

    def test_values_that_are_no_texts(self):
        for value in NO_TEXTS:
            self.assertIsNone(self.bad(value))
