"""Points 40, 41: texts of kinds and samples, and how they are read; of 3 and 5 what they say of these."""

import inspect
import random
import unittest

import oracle
from objects import shape
from toldenough.errors import BadLine, BadText
from toldenough.fitting import cost
from toldenough.kinds import Boxes, Flats, Halves, Rising, Turns
from toldenough.samples import Sample
from toldenough.texts import read_kind, read_sample

STARTS = ["halves 1", "halves 2", "halves 3", "boxes 1", "boxes 2", "boxes 3", "rising 1", "rising 2", "rising 3",
          "flats 1", "flats 2", "flats 3", *[f"turns {most}" for most in range(7)]]
WORDS = ["halves", "boxes", "rising", "flats", "turns", "not", "both", "either", "any", "0", "1", "2", "3", "4", "6",
         "7", "", "01", "+1", "-1", "Halves", "half", "1\n", "\t", "and", "halves\t2", "2.", "yes", "places"]


def begins(words, places=None):
    """Tell whether a text of a kind begins with these words, by all ways on from each of them.

    What is still lacking is a stack of "kind", "number" (of places) and "most".
    """
    lacking = ["kind"]
    for word in words:
        if not lacking:
            return False
        wanted = lacking.pop()
        if wanted == "kind":
            if word == "not":
                lacking.append("kind")
            elif word in ("both", "either", "any"):
                lacking += ["kind", "kind"]
            elif word in ("halves", "boxes", "rising", "flats"):
                lacking.append("number")
            elif word == "turns" and places in (None, "1"):
                places = "1"
                lacking.append("most")
            else:
                return False
        elif wanted == "number":
            if word not in ("1", "2", "3") or places not in (None, word):
                return False
            places = word
        elif word not in ("0", "1", "2", "3", "4", "5", "6"):
            return False
    return True


def first_wrong(words):
    """Return the index of the first word up to which no text of a kind begins, or None."""
    return next((at for at in range(len(words)) if not begins(words[:at + 1])), None)


class Interface(unittest.TestCase):

    def test_defined_in_their_file_with_the_listed_names(self):
        for function in (read_kind, read_sample):
            self.assertEqual(function.__module__, "toldenough.texts")
            self.assertEqual(str(inspect.signature(function)), "(text)")

    def test_arguments_by_name(self):
        self.assertEqual(read_kind(text="turns 4"), Turns(4))
        self.assertEqual(read_sample(text="places 2\n"), Sample(2))


class Kinds(unittest.TestCase):

    def check_bad(self, text, index):
        with self.subTest(text=text):
            with self.assertRaises(BadText) as caught:
                read_kind(text)
            self.assertEqual(shape(caught.exception.index), shape(index))

    def test_plain_kinds(self):
        for places in (1, 2, 3):
            for kind, word in ((Halves(places), "halves"), (Boxes(places), "boxes"), (Rising(places), "rising"),
                               (Flats(places), "flats")):
                self.assertEqual(kind.text(), f"{word} {places}")
                self.assertEqual(read_kind(f"{word} {places}"), kind)
                self.assertEqual(shape(read_kind(f"{word} {places}").places), shape(places))
        for most in range(7):
            self.assertEqual(Turns(most).text(), f"turns {most}")
            self.assertEqual(read_kind(f"turns {most}"), Turns(most))
            self.assertEqual(shape(read_kind(f"turns {most}").places), shape(1))

    def test_kinds_put_together(self):
        for kind, text in ((~Boxes(2), "not boxes 2"), (Halves(2) & Flats(2), "both halves 2 flats 2"),
                           (Turns(3) | Halves(1), "either turns 3 halves 1"),
                           (Rising(3) + Boxes(3), "any rising 3 boxes 3"),
                           (~(Turns(0) + ~Turns(6)), "not any turns 0 not turns 6"),
                           ((Flats(1) & Turns(1)) | ~Boxes(1), "either both flats 1 turns 1 not boxes 1"),
                           (Flats(1) & (Turns(1) | ~Boxes(1)), "both flats 1 either turns 1 not boxes 1")):
            with self.subTest(text=text):
                self.assertEqual(kind.text(), text)
                self.assertEqual(read_kind(text), kind)
                self.assertEqual(shape(read_kind(text).places), shape(kind.places))

    def test_what_is_read_again_is_equal(self):
        chance = random.Random(141)
        for _ in range(300):
            places = chance.randint(1, 3)
            kind = oracle.built(oracle.random_spec(chance, places, chance.randint(1, 6)))
            again = read_kind(kind.text())
            self.assertEqual(again, kind)
            self.assertEqual((again.text(), again.places), (kind.text(), kind.places))

    def test_a_kind_that_is_read_is_used(self):
        sample = Sample(1, [((0,), True), ((1,), False), ((2,), True)])
        for text, wrong in (("halves 1", 1), ("not boxes 1", 0), ("both halves 1 flats 1", 1), ("turns 2", 0)):
            self.assertEqual(cost(read_kind(text), sample), wrong)

    def test_sixty_words(self):
        text = "not " * 58 + "flats 3"
        self.assertEqual((read_kind(text).text(), read_kind(text).places), (text, 3))
        many = "both " * 19 + " ".join(["turns 6"] * 20)
        self.assertEqual((read_kind(many).text(), read_kind(many).places), (many, 1))
        deep = "any rising 2 " * 19 + "boxes 2"
        self.assertEqual((read_kind(deep).text(), read_kind(deep).places), (deep, 2))
        self.check_bad("not " * 58 + "flats", 59)
        self.check_bad("not " * 59 + "not", 60)
        self.check_bad(many[:-1] + "7", 58)

    def test_words_that_are_wrong(self):
        for text, index in (("", 0), (" ", 0), ("kind 2", 0), ("2", 0), ("halve 2", 0), ("Halves 2", 0),
                            ("halves 0", 1), ("halves 4", 1), ("boxes 10", 1), ("flats 02", 1), ("rising +1", 1),
                            ("rising -1", 1), ("turns 7", 1), ("turns 00", 1), ("turns -0", 1), ("turns -1", 1),
                            ("turns x", 1), ("halves not", 1), ("not 2", 1), ("both halves 2 2", 3),
                            ("Not halves 2", 0), ("both halves 2 and halves 2", 3), ("not halves halves 2", 2)):
            self.check_bad(text, index)

    def test_words_that_lack_at_the_end(self):
        for text, index in (("halves", 1), ("turns", 1), ("not", 1), ("both", 1), ("either halves", 2),
                            ("any halves 2", 3), ("both halves 2 flats", 4), ("not not not", 3),
                            ("both both turns 1 turns 2", 6),
                            ("either halves 3 both halves", 5)):
            self.check_bad(text, index)

    def test_words_too_many(self):
        for text, index in (("halves 2 ", 2), ("halves 2 halves 2", 2), ("turns 4 4", 2), ("not boxes 1 not", 3),
                            ("any flats 3 flats 3 flats 3", 5), ("turns 4  ", 2), ("both turns 1 turns 2 x y", 5)):
            self.check_bad(text, index)

    def test_spaces_tabs_and_line_feeds(self):
        for text, index in ((" halves 2", 0), ("halves  2", 1), ("\thalves 2", 0), ("halves\t2", 0), ("halves 2\n", 1),
                            ("halves 2\t", 1), ("halves\n2", 0), ("not  halves 2", 1), ("both halves 2  flats 2", 3),
                            ("\n", 0), ("not\nhalves 2", 0)):
            self.check_bad(text, index)

    def test_unlike_places(self):
        for text, index in (("both halves 2 turns 1", 3), ("both halves 2 boxes 1", 4), ("any turns 3 rising 2", 4),
                            ("either flats 3 not not turns 0", 5), ("both turns 0 halves 1 flats 2", 5),
                            ("both turns 0 both halves 1 flats 2", 7), ("any both boxes 3 boxes 3 boxes 2", 7),
                            ("any both boxes 3 boxes 3 turns", 6), ("either halves 3 both turns", 4),
                            ("both halves 2 turns x", 3), ("not both turns 6 not halves 3", 6)):
            self.check_bad(text, index)

    def test_each_word_left_out_put_in_exchanged_and_doubled(self):
        chance = random.Random(142)
        for _ in range(60):
            places = chance.randint(1, 3)
            words = oracle.built(oracle.random_spec(chance, places, chance.randint(1, 4))).text().split(" ")
            for at in range(len(words)):
                other = chance.choice(WORDS)
                for changed in (words[:at] + words[at + 1:], [*words[:at], other, *words[at:]],
                                [*words[:at], other, *words[at + 1:]], [*words[:at + 1], *words[at:]], words[:at],
                                [*words, other], [*words[:at], words[-1], *words[at + 1:-1], words[at]]):
                    self.check_words(changed)

    def test_words_by_chance(self):
        chance = random.Random(143)
        for _ in range(3000):
            words = " ".join(chance.choice(chance.choice((STARTS, WORDS, ["not", "both", "either", "any"])))
                             for _ in range(chance.randint(1, 6))).split(" ")
            self.check_words(words)

    def check_words(self, words):
        """Check what is read from the words, or its error; words are what stands between spaces."""
        words = " ".join(words).split(" ")
        index = first_wrong(words)
        if index is None:
            try:
                self.assertEqual(read_kind(" ".join(words)).text(), " ".join(words))
                return
            except BadText as error:
                # Some words are lacking: then one more makes it the beginning of a text, or a whole one.
                self.assertEqual(shape(error.index), shape(len(words)))
                self.assertTrue(any(begins([*words, word]) for word in [*WORDS, "5"]))
        else:
            self.check_bad(" ".join(words), index)


class Samples(unittest.TestCase):

    def check_bad(self, text, number):
        with self.subTest(text=text):
            with self.assertRaises(BadLine) as caught:
                read_sample(text)
            self.assertEqual(shape(caught.exception.line), shape(number))

    def test_texts(self):
        for sample, text in ((Sample(1), "places 1\n"), (Sample(3), "places 3\n"),
                             (Sample(1, [((1,), True), ((4,), False), ((0,), False)]), "places 1\nyes 1\nno 4\nno 0\n"),
                             (Sample(2, [((-99, 0), True)] * 2), "places 2\nyes -99 0\nyes -99 0\n"),
                             (Sample(3, [((0, -1, 99), False)]), "places 3\nno 0 -1 99\n")):
            with self.subTest(text=text):
                self.assertEqual(sample.text(), text)
                again = read_sample(text)
                self.assertEqual(again, sample)
                self.assertEqual(shape([again.places, again.examples()]), shape([sample.places, sample.examples()]))

    def test_what_is_read_again_is_equal(self):
        for _, places, pairs, _ in oracle.cases(144, 200, 8):
            sample = Sample(places, pairs)
            self.assertEqual(read_sample(sample.text()), sample)
            self.assertEqual(read_sample(sample.text()).text(), sample.text())

    def test_integers_of_six_and_of_seven_signs(self):
        for entry in (999999, -99999, 100000, -10000, 0, -1, 10, 100):
            self.assertEqual(read_sample(f"places 2\nyes {entry} 0\n").examples(), [((entry, 0), True)])
        for entry in ("1000000", "-100000", "-999999", "0000001", "999999999999999999"):
            self.check_bad(f"places 2\nyes {entry} 0\n", 2)
            self.check_bad(f"places 2\nyes 0 {entry}\n", 2)

    def test_integers_not_as_str_writes_them(self):
        for entry in ("00", "01", "+1", "-0", "-01", "--1", "1-", "-", "", "1.", "1_0", "0x1", "x", "1\t", " 1", "1 ",
                      "1e3", "True", "None", "-+1", "+-1", "\t1", "(1)", "1,"):
            self.check_bad(f"places 1\nyes 1\nno {entry}\nyes 1\n", 3)
            self.check_bad(f"places 3\nyes 1 {entry} 1\n", 2)

    def test_first_lines(self):
        for first in ("", "places", "places ", "places 0", "places 4", "places 01", "places +1", "places  1",
                      " places 1", "places 1 ", "Places 1", "place 1", "places\t1", "places 1\t", "places 1 1", "yes 1",
                      "1", "places one", "places -1", "places 10"):
            self.check_bad(f"{first}\nyes 1\n", 1)
            self.check_bad(f"{first}\n", 1)
            self.check_bad(f"{first}\nnonsense\n", 1)

    def test_lines_of_examples(self):
        for row in ("", "yes", "no ", "yes 1 2", "Yes 1", "YES 1", "true 1", "yes  1", " yes 1", "yes 1 ", "yes\t1",
                    "1", "1 yes", "places 1", "yes,1", "open 1", "yesno 1", "\tyes 1", "yes 1\t"):
            self.check_bad(f"places 1\n{row}\n", 2)
            self.check_bad(f"places 1\nyes 1\nno 2\n{row}\nnonsense\n", 4)
        self.check_bad("places 2\nyes 1\n", 2)
        self.check_bad("places 2\nyes 1 2\nno 1 2 3\n", 3)

    def test_line_feeds_and_the_empty_text(self):
        for text, number in (("", 1), ("\n", 1), ("places 1", 1), ("places 2", 1), ("\n\n", 1), ("places 1\n\n", 2),
                             ("\nplaces 1\n", 1), ("places 1\nyes 1", 2), ("places 1\nyes 1\nno 2", 3),
                             ("places 1\n\nyes 1\n", 2), ("places 1\nyes 1\n\n", 3), ("places 1\nyes 1\n ", 3),
                             ("places 1\nyes x\nno 2", 2), ("places 9\nyes 1", 1), ("places 1\nyes 1\n\t", 3),
                             ("places 1 yes 1\n", 1), ("nonsense", 1), ("places 1\nnonsense", 2)):
            self.check_bad(text, number)

    def test_each_line_left_out_put_in_exchanged_and_doubled(self):
        rows = ["places 2", "yes 1 -2", "no 0 99", "yes 1 -2"]
        self.assertEqual(read_sample("\n".join([*rows, ""])).examples(),
                         [((1, -2), True), ((0, 99), False), ((1, -2), True)])
        for at in range(len(rows)):
            less = rows[:at] + rows[at + 1:]
            twice = rows[:at + 1] + rows[at:]
            if at == 0:
                self.check_bad("\n".join([*less, ""]), 1)
                self.check_bad("\n".join([*twice, ""]), 2)
            else:
                self.assertEqual(read_sample("\n".join([*less, ""])).text(), "\n".join([*less, ""]))
                self.assertEqual(read_sample("\n".join([*twice, ""])).text(), "\n".join([*twice, ""]))
            for other in ("yes 1", "no 1 2 3", "", "places 2 ", "maybe 1 2"):
                self.check_bad("\n".join([*rows[:at], other, *rows[at:], ""]), at + 1)
                self.check_bad("\n".join([*rows[:at], other, *rows[at + 1:], ""]), at + 1)
        self.check_bad("\n".join(["yes 1 -2", "places 2", ""]), 1)

    def test_each_sign_left_out_or_exchanged(self):
        text = "places 2\nyes -10 7\nno 0 55\n"
        for at in range(len(text)):
            for other in ("", "x", " ", "\t", "\n", "+", "Y"):
                changed = text[:at] + other + text[at + 1:]
                if changed == text:
                    continue
                number = text[:at].count("\n") + 1
                try:
                    self.assertEqual(read_sample(changed).text(), changed)
                except BadLine as error:
                    # A line feed that is put in may leave a line that is right ahead of the wrong one.
                    self.assertIn(error.line, (number, number + 1) if other == "\n" else (number,))
        for at, number in ((0, 1), (8, 1), (12, 2), (17, 2), (25, 3)):
            self.check_bad(text[:at] + " " + text[at:], number)


if __name__ == "__main__":
    unittest.main()
