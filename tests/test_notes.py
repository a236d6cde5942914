import unittest

import reference
from cases import CouncilCase
from votesway.council import Council
from votesway.errors import BadNote
from votesway.notes import read, shown

SIGNS = "\n" + "".join(chr(code) for code in range(32, 127) if chr(code) != "%")

NOTES = ("1:", "1: -", "1: 0", "2: -", "2: 0, 1", "2: 0+1", "3: 0+1, 0+2", "3: 1, 0+2", "4:", "4: 0+1, 2+3",
         "4: 3, 0+1+2", "5:", "5: -", "5: 0+1+2+3+4", "5: 4, 0+1, 2+3", "5: 0+3, 0+1+2, 1+2+3+4",
         "5: 0+1, 0+2, 0+3, 0+4, 1+2, 1+3, 1+4, 2+3, 2+4, 3+4")

WRONG = (
    # No number of members, no colon, or more than one.
    "", ":", ": 0", "-", "3", "3 0+1", "0+1", "3;", "3: 0: 1", "3::", "::", "3: 0:", " ", "\n", ",", "+", "3:3: 0",
    # Numbers of members that aren't 1 to 5.
    "0:", "0: -", "0: 0", "6:", "6: 0", "6: -", "7:", "9: 0", "10:", "15: 0", "-1:", "-3: 0", "11111111111111111111:",
    # Leading noughts, signs of a number, other ways to write one.
    "03: 0+1", "3: 00", "3: 01", "3: 0+01", "+3: 0", "3: +1", "3: -1", "3: 0++1", "3: 0+-1", "3: 0+1+", "3: -0",
    "00:", "3: 1_", "3: 0_1", "3: 1.0", "3.0: 1", "0x3: 1", "three: 0", "3: a", "3: 0-1",
    # Blanks and line ends too many or too few.
    "3:0", "3:0+1, 0+2", "3: 0+1,0+2", "3: 0+1,  0+2", "3:  0+1", " 3: 0", "3 : 0", "3: 0 ", "3: 0+1 , 0+2", "3: ",
    "4: ", "4:\n", "3: 0\n", "\n3: 0", "3:\n0", "3: 0,\n1", "3:\n", "3\n: 0", "3: 0 +1", "3: 0+ 1", "3: - ", "3:-",
    "3: 0\n\n", "3: 0+\n1", "3: 0 1", "4:  ",
    # Commas too many or too few.
    "3:,", "3: ,", "3: 0,", "3: 0, ", "3:, 0", "3: , 0", "3: 0,, 1", "3: 0, , 1", "3: 0+1 0+2", "3: 0; 1",
    # Crowds out of order, twice, or one holding another.
    "3: 1, 0", "3: 0+2, 0+1", "3: 0+1, 2", "3: 1+2, 0", "3: 0, 0", "3: 0+1, 0+1", "3: 0, 0+1", "3: 1, 0+1",
    "3: -, -", "3: -, 0", "3: 0, -", "3: 0+1, 0+1+2", "3: 0+1+2, 0+1", "5: 0+1+2, 3+4", "3: 0+1, 0+2, 0+1",
    # Members that are not there, or don't rise.
    "1: 1", "2: 2", "3: 3", "3: 0+3", "4: 4", "5: 5", "5: 0+5", "3: 10", "3: 9", "3: 1+0", "3: 0+0", "3: 0+2+1",
    "3: 2+1+0", "3: 0+1, 2+1", "5: 11111111111111111111", "3: -+0", "3: 0+-", "3: --",
)


def all_notes():
    return {reference.note(many, told): (many, reference.least(many, told))
            for size in range(1, 6) for many, told in reference.all_councils(size)}


def texts_near(note):
    for place in range(len(note) + 1):
        for sign in SIGNS:
            yield note[:place] + sign + note[place:]
            yield note[:place] + sign + note[place + 1:]
        yield note[:place] + note[place + 1:]
        yield note[:place]
        yield note[place:]
        yield note[:place] + note[place:place + 2][::-1] + note[place + 2:]


class Shown(CouncilCase):
    def test_the_examples_of_the_document(self):
        self.assertEqual(shown(Council(3, [(0, 1), (0, 2)])), "3: 0+1, 0+2")
        self.assertEqual(shown(Council(2, [()])), "2: -")
        self.assertEqual(shown(Council(4, [])), "4:")

    def test_where_nobody_and_where_everybody_carries(self):
        for many in range(1, 6):
            self.assertEqual(shown(Council(many, [])), f"{many}:")
            self.assertEqual(shown(Council(many, [()])), f"{many}: -")
            self.assertEqual(shown(Council(many, [(0,), ()])), f"{many}: -")

    def test_least_crowds_in_order(self):
        council = Council(5, [(1, 2, 4), (2, 3), (0, 1, 2, 3), (4, ), (2, 3), (0, 1)])
        self.assertEqual(shown(council), "5: 4, 0+1, 2+3")
        self.assertEqual(council.least(), [(4,), (0, 1), (2, 3)])

    def test_against_the_words_of_the_document(self):
        for many, told in reference.lists_to_try():
            self.assertEqual(shown(Council(many, told)), reference.note(many, told))


class Read(CouncilCase):
    def test_what_is_written_is_read_to_the_same_council(self):
        for many, told in reference.councils_to_try(3):
            council = Council(many, told)
            again = read(shown(council))
            self.assertIs(type(again), Council)
            self.assert_same(again, council)
            self.assertEqual(again.least(), reference.least(many, told))

    def test_some(self):
        self.assert_tells(read("3: 0+1, 0+2"), 3, [(0, 1), (0, 2)])
        self.assert_tells(read("2: -"), 2, [()])
        self.assert_tells(read("4:"), 4, [])

    def test_what_is_read_is_written_as_it_was(self):
        for note in NOTES:
            self.assertEqual(shown(read(note)), note)

    def test_each_reading_is_a_council_of_its_own(self):
        first = read("3: 0+1, 0+2")
        second = read("3: 0+1, 0+2")
        first.least().clear()
        self.assertIsNot(first.least(), second.least())
        self.assert_same(first, second)

    def test_by_the_names_of_the_interface(self):
        self.assertEqual(shown(council=read(text="2: 1")), "2: 1")


class Refused(CouncilCase):
    def test_wrong_texts(self):
        for text in WRONG:
            with self.subTest(text=text):
                self.assert_refused(BadNote, read, text)

    def test_a_sign_put_in_changed_or_taken_out(self):
        notes = all_notes()
        self.assertEqual(len(notes), 3 + 6 + 20 + 168 + 7581)
        for note in NOTES:
            self.assertIn(note, notes)
            for text in texts_near(note):
                if text in notes:
                    council = read(text)
                    self.assertEqual((council.many(), council.least()), notes[text])
                else:
                    self.assert_refused(BadNote, read, text)

    def test_short_texts(self):
        notes = all_notes()
        for one in SIGNS:
            for other in SIGNS:
                for text in (one, one + other, one + ":" + other, one + ": " + other, "3: " + one + "+" + other):
                    if text not in notes:
                        self.assert_refused(BadNote, read, text)

    def test_long_texts(self):
        crowds = ", ".join(["0+1"] * 79)
        for text in ("5: " + crowds, "5:" + " " * 398, "1" * 399 + ":", "1" * 5000 + ":", "3: " + "1" * 5000,
                     "5: " + "+".join("01234" * 39), "\n" * 400, "5: 0" + ", 0" * 200, "+" * 400, ":" * 400,
                     "3: 0+1, 0+2" + " " * 389, "3: 0+1, 0+2" * 36):
            self.assert_refused(BadNote, read, text)


if __name__ == "__main__":
    unittest.main()
