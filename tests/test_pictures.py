import unittest
from itertools import product

from all_waves import waves_up_to
from edits import SIGNS, with_one_edit
from refusals import refuses
from tickrows.errors import NoText
from tickrows.pictures import picture, read_picture

PICTURES = {
    "0": " \n \n_\n",
    "1": "_\n \n \n",
    "x": " \n?\n \n",
    "00": "   \n   \n___\n",
    "01": "  _\n | \n_| \n",
    "0x": " | \n |?\n_| \n",
    "10": "_  \n | \n |_\n",
    "11": "___\n   \n   \n",
    "1x": "_| \n |?\n | \n",
    "x0": " | \n?| \n |_\n",
    "x1": " |_\n?| \n | \n",
    "xx": "   \n???\n   \n",
    "0110x01xx0": "  ___  | |  _|   | \n |   | |?| | |???| \n_|   |_| |_| |   |_\n",
    "011000111001": "  ___       _____     _\n |   |     |     |   | \n_|   |_____|     |___| \n",
}
LONG_WAVES = ["0" * 12, "1" * 12, "x" * 12, "01" * 6, "10" * 6, "0x" * 6, "x1" * 6, "01x10x01x10x", "001x1100xx01"]


def drawn_by_hand(wave):
    """The picture, sign by sign, by where each sign stands."""
    rows = []
    for row in range(3):
        signs = ""
        for place in range(2 * len(wave) - 1):
            ahead, behind = wave[place // 2], wave[(place + 1) // 2]
            if ahead == behind:
                mark = {"0": 2, "1": 0, "x": 1}[ahead]
                signs += {"0": "_", "1": "_", "x": "?"}[ahead] if row == mark else " "
            else:
                signs += " " if row == 0 and "x" not in ahead + behind else "|"
        rows.append(signs + "\n")
    return "".join(rows)


class Picture(unittest.TestCase):
    """[5.1]"""

    def test_each_level_beside_each_other_one(self):
        for wave, text in PICTURES.items():
            with self.subTest(wave=wave):
                self.assertEqual(picture(wave), text)

    def test_three_lines_of_a_column_for_each_tick_and_one_between(self):
        for wave in waves_up_to(4) + LONG_WAVES:
            lines = picture(wave).split("\n")
            self.assertEqual([len(line) for line in lines], [2 * len(wave) - 1] * 3 + [0])

    def test_against_pictures_drawn_sign_by_sign(self):
        for wave in waves_up_to(6) + LONG_WAVES:
            self.assertEqual(picture(wave), drawn_by_hand(wave))

    def test_kind_of_what_is_told(self):
        self.assertIs(type(picture("01x")), str)
        self.assertIs(type(read_picture(picture("01x"))), str)


class ReadPicture(unittest.TestCase):
    """[5.2], [0.2] (g)"""

    def test_pictures_written_out(self):
        for wave, text in PICTURES.items():
            with self.subTest(wave=wave):
                self.assertEqual(read_picture(text), wave)

    def test_pictures_read_back_as_what_they_show(self):
        for wave in waves_up_to(6) + LONG_WAVES:
            self.assertEqual(read_picture(picture(wave)), wave)

    def test_no_two_waves_have_one_picture(self):
        waves = waves_up_to(6)
        self.assertEqual(len({picture(wave) for wave in waves}), len(waves))

    def test_the_empty_text(self):
        refuses(self, NoText, read_picture, "")

    def test_texts_that_are_nothing_but_line_feeds_or_blanks(self):
        for many in range(1, 8):
            refuses(self, NoText, read_picture, "\n" * many)
            refuses(self, NoText, read_picture, " " * many)
            refuses(self, NoText, read_picture, (" " * many + "\n") * 3)
            refuses(self, NoText, read_picture, ("|" * many + "\n") * 3)

    def test_a_sign_put_in_taken_out_or_exchanged(self):
        for wave in ("0", "1", "x", "01", "1x", "00", "xx"):
            for text in with_one_edit(picture(wave), SIGNS):
                refuses(self, NoText, read_picture, text)

    def test_edits_of_longer_pictures(self):
        for wave in ["011", "1x0", "0xx1", "00x110"] + LONG_WAVES:
            for text in with_one_edit(picture(wave), " _?|\n0~"):
                refuses(self, NoText, read_picture, text)

    def test_a_line_put_in_taken_out_or_exchanged(self):
        for wave in waves_up_to(3) + LONG_WAVES:
            above, middle, below = picture(wave).splitlines(keepends=True)
            for line in (above, middle, below, "\n"):
                for lines in ((line, above, middle, below), (above, line, middle, below),
                              (above, middle, line, below), (above, middle, below, line)):
                    refuses(self, NoText, read_picture, "".join(lines))
            for lines in ((above, middle), (above, below), (middle, below), (above,), (middle,), (below,)):
                refuses(self, NoText, read_picture, "".join(lines))

    def test_lines_in_another_order_are_read_only_as_what_they_show(self):
        shown = {drawn_by_hand(wave): wave for wave in waves_up_to(4)}
        for wave in waves_up_to(4):
            above, middle, below = drawn_by_hand(wave).splitlines(keepends=True)
            for lines in ((above, below, middle), (middle, above, below), (middle, below, above),
                          (below, above, middle), (below, middle, above)):
                text = "".join(lines)
                if text in shown:
                    self.assertEqual(read_picture(text), shown[text])
                else:
                    refuses(self, NoText, read_picture, text)

    def test_lines_of_unlike_lengths(self):
        refuses(self, NoText, read_picture, "\n\n_\n")
        refuses(self, NoText, read_picture, "  _\n |\n_|\n")
        refuses(self, NoText, read_picture, "_  \n | \n |_ \n")
        refuses(self, NoText, read_picture, "__\n  \n  \n")

    def test_a_missing_or_a_further_line_feed_at_the_end(self):
        for wave in waves_up_to(3) + LONG_WAVES:
            refuses(self, NoText, read_picture, picture(wave)[:-1])
            refuses(self, NoText, read_picture, picture(wave) + "\n")
            refuses(self, NoText, read_picture, "\n" + picture(wave))
            refuses(self, NoText, read_picture, picture(wave) + " ")
            refuses(self, NoText, read_picture, picture(wave) + picture(wave))

    def test_a_wrong_column_between_two_ticks(self):
        refuses(self, NoText, read_picture, "   \n | \n_|_\n")
        refuses(self, NoText, read_picture, " |_\n | \n_| \n")
        refuses(self, NoText, read_picture, "   \n |?\n_| \n")
        refuses(self, NoText, read_picture, "   \n?|?\n | \n")
        refuses(self, NoText, read_picture, "_ _\n   \n   \n")

    def test_a_picture_of_more_than_12_ticks(self):
        for wave in ("0" * 13, "01" * 7, "x" * 13, "1" * 30):
            refuses(self, NoText, read_picture, drawn_by_hand(wave))

    def test_texts_that_are_the_wave_or_other_words(self):
        for text in ("0", "01x", "0.1", "picture", "_", "?", "|", "~~~\n~~~\n~~~\n", "0\n1\nx\n", "%s\n{}\n\\n\n"):
            refuses(self, NoText, read_picture, text)

    def test_all_short_texts_of_the_signs_of_pictures(self):
        shown = {drawn_by_hand(wave): wave for wave in "01x"}
        for length in range(7):
            for signs in product(" _?|\n", repeat=length):
                text = "".join(signs)
                if text in shown:
                    self.assertEqual(read_picture(text), shown[text])
                else:
                    refuses(self, NoText, read_picture, text)


if __name__ == "__main__":
    unittest.main()
