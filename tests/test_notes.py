import itertools
import unittest

from by_the_words import all_hands, bad_hands, drawn_hands, house_tiles
from meldhouse.errors import BadHand, BadNote
from meldhouse.houses import House
from meldhouse.notes import read, shown

# Every sign that a text may have.
SIGNS = ["\t", "\n"] + [chr(code) for code in range(ord(" "), ord("~") + 1) if chr(code) != "%"]
TWELVE = "1a 1a 1b 1b 2a 2a 2b 2b 3a 3a 3b 3b"


def edits(text, signs):
    """Every text with one sign too many, too few or another one."""
    found = {text[:k] + text[k + 1:] for k in range(len(text))}
    for k, sign in itertools.product(range(len(text) + 1), signs):
        found.add(text[:k] + sign + text[k:])
        found.add(text[:k] + sign + text[k + 1:])
    return found


class NotesCase(unittest.TestCase):
    def setUp(self):
        self.house = House(13, 4)

    def writes(self, hand, jokers, text, house=None):
        house = house or self.house
        self.assertEqual(shown(house, hand, jokers), text)
        told = read(house, text)
        self.assertEqual(told, (hand, jokers))
        self.assertEqual((type(told), type(told[0]), type(told[1])), (tuple, list, int))

    def refuses(self, text, house=None):
        with self.subTest(text=text):
            with self.assertRaises(BadNote) as caught:
                read(house or self.house, text)
            self.assertIs(type(caught.exception), BadNote)


class Written(NotesCase):
    def test_the_hand_of_the_document(self):
        self.writes([(3, 0), (4, 0), (11, 2)], 1, "3a 4a 11c *")

    def test_nothing_at_all(self):
        self.writes([], 0, "-")

    def test_jokers_alone(self):
        self.writes([], 1, "*")
        self.writes([], 2, "* *")

    def test_tiles_with_and_without_jokers(self):
        self.writes([(1, 3)], 0, "1d")
        self.writes([(1, 3)], 1, "1d *")
        self.writes([(1, 3), (1, 3), (2, 0)], 2, "1d 1d 2a * *")

    def test_twelve_tiles_and_two_jokers(self):
        hand = sorted([(number, colour) for number in [1, 2, 3] for colour in [0, 1]] * 2)
        self.writes(hand, 2, TWELVE + " * *")
        self.writes(hand, 0, TWELVE, House(3, 2))

    def test_every_tile_by_itself(self):
        for number, colour in house_tiles(13, 4):
            self.writes([(number, colour)], 0, str(number) + "abcd"[colour])

    def test_order_is_by_number_not_by_text(self):
        self.writes([(2, 0), (9, 1), (10, 0), (13, 3)], 0, "2a 9b 10a 13d")
        self.refuses("10a 2a")

    def test_every_hand_of_a_small_house_has_a_note_of_its_own(self):
        notes = set()
        pairs = list(itertools.product(all_hands(3, 2), [0, 1, 2]))
        for hand, jokers in pairs:
            self.writes(hand, jokers, shown(House(3, 2), hand, jokers), House(3, 2))
            notes.add(shown(House(3, 2), hand, jokers))
        self.assertEqual(len(notes), len(pairs))

    def test_drawn_hands_forth_and_back(self):
        for most, colours in [(13, 4), (10, 3), (9, 1)]:
            for hand in drawn_hands(31, most, colours, 100):
                for jokers in [0, 1, 2]:
                    words = [str(number) + "abcd"[colour] for number, colour in hand] + ["*"] * jokers
                    self.writes(hand, jokers, " ".join(words) or "-", House(most, colours))

    def test_what_is_no_hand_is_not_shown(self):
        for most, colours in [(7, 1), (13, 4)]:
            for hand, jokers in bad_hands(most, colours):
                with self.subTest(hand=hand, jokers=jokers):
                    with self.assertRaises(BadHand) as caught:
                        shown(House(most, colours), hand, jokers)
                    self.assertIs(type(caught.exception), BadHand)


class Refused(NotesCase):
    def test_the_empty_text_and_blanks(self):
        for text in ["", " ", "  ", "\n", "\t"]:
            self.refuses(text)

    def test_needless_zero(self):
        for text in ["03a", "003a", "3a 04a", "0a", "00a", "013d", "+3a", "-3a", "1_0a", "3.0a"]:
            self.refuses(text)

    def test_blanks_too_many_or_too_few(self):
        for text in ["3a  4a", " 3a", "3a ", "3a4a", "3 a", "3a  *", "3a*", "**", "* ", " *", "- ", " -", "*  *"]:
            self.refuses(text)

    def test_tabs_and_line_ends(self):
        for text in ["3a\t4a", "3a\n4a", "3a\n", "\n3a", "3a *\n", "-\n", "\t-", "*\t*", "3a \n", "3\na"]:
            self.refuses(text)

    def test_a_joker_ahead_of_a_tile(self):
        for text in ["* 3a", "3a * 4a", "* 3a *", "* * 3a"]:
            self.refuses(text)

    def test_three_jokers(self):
        for text in ["* * *", "3a * * *", TWELVE + " * * *", "* * * *"]:
            self.refuses(text)

    def test_nothing_beside_something(self):
        for text in ["- 3a", "3a -", "- *", "* -", "- -", "--", "-*", "*-"]:
            self.refuses(text)

    def test_tiles_out_of_order(self):
        for text in ["4a 3a", "3b 3a", "3a 4a 3a", "13a 2a"]:
            self.refuses(text)

    def test_three_alike(self):
        for text in ["3a 3a 3a", "1d 3a 3a 3a *", "3a 3a 3a 3a"]:
            self.refuses(text)

    def test_thirteen_tiles(self):
        self.refuses(TWELVE + " 4a")
        self.refuses(" ".join([TWELVE] * 500))

    def test_tiles_off_the_house(self):
        for text in ["14a", "0a", "3e", "100a", "99999999999999999999a", "3a 14a", "3A", "3D", "a3", "3", "a", "3aa", "3ab"]:
            self.refuses(text)
        self.refuses("8a", House(7, 2))
        self.refuses("3c", House(7, 2))
        self.refuses("4a", House(3, 1))
        self.refuses("3b", House(3, 1))

    def test_other_texts(self):
        for text in ["3a,4a", "3a, 4a", "3a;", "joker", "x", "3a x", "3a 4a 11c *.", "(3, 0)", "[]", "None", "3a #"]:
            self.refuses(text)

    def compare_edits(self, house, notes, chosen, signs):
        for note in chosen:
            for text in edits(note, signs):
                if text in notes:
                    self.assertEqual(shown(house, *read(house, text)), text)
                else:
                    with self.assertRaises(BadNote, msg=repr(text)):
                        read(house, text)

    def test_one_sign_too_many_too_few_or_another_one(self):
        for most, colours, step in [(3, 1, 7), (3, 2, 300)]:
            notes = [
                " ".join([str(number) + "abcd"[colour] for number, colour in hand] + ["*"] * jokers) or "-"
                for hand in all_hands(most, colours) for jokers in [0, 1, 2]
            ]
            self.compare_edits(House(most, colours), set(notes), notes[::step], SIGNS)
            self.compare_edits(House(most, colours), set(notes), notes[:30], "\n\t *-0123abc")


if __name__ == "__main__":
    unittest.main()
