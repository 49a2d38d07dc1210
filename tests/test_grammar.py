import random
import unittest

from keptbindings.errors import BadSyntax
from keptbindings.syntax import check_syntax
from tests.grammar import TERMINALS, first_wrong, invent


def changed(chance, words):
    """The words with a word less, more, or another one, or without their end."""
    at = chance.randrange(len(words) + 1)
    way = chance.randrange(4)
    other = [chance.choice(TERMINALS)]
    return [words[:at], words[:at] + words[at + 1:], words[:at] + other + words[at:], words[:at] + other + words[at + 1:]][way]


def written(chance, words):
    """A text of these words, with unlike names, and the starts of the words and the length."""
    text = ""
    starts = []
    for at, word in enumerate(words):
        text += chance.choice([" ", "\n", " # a;\n"])
        starts.append(len(text))
        text += {"NAME": "n" + str(at), "NUMBER": str(at), "TEXT": "'(;'"}.get(word, word)
    text += chance.choice(["", " ", " # a;"])
    return text, [*starts, len(text)]


class GrammarTest(unittest.TestCase):
    def check(self, chance, words):
        text, starts = written(chance, words)
        at = first_wrong(words)
        try:
            check_syntax(text)
            found = None
        except BadSyntax as error:
            found = error.at
        self.assertEqual(found, None if at is None else starts[at], text)
        return found is None

    def test_random_texts(self):
        chance = random.Random(5)
        right, wrong = 0, 0
        while right + wrong < 1500:
            words = [word for _ in range(chance.randrange(1, 4)) for word in invent(chance, "TOP", chance.randrange(4, 22))]
            if len(words) > 90:
                continue
            for _ in range(chance.randrange(3)):
                words = changed(chance, words)
            if self.check(chance, words):
                right += 1
            else:
                wrong += 1
        self.assertGreater(right, 300)
        self.assertGreater(wrong, 300)
