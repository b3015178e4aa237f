import unittest

from all_waves import all_that_it_can_be, waves_of
from refusals import refuses
from tickrows.errors import Unlike
from tickrows.gates import both, chosen, either, no, unlike


def told_of_all(call, *waves):
    """The level that comes whatever the unknown ones are, or x, found by trying them all."""
    rows = [()]
    for wave in waves:
        rows = [row + (known,) for row in rows for known in all_that_it_can_be(wave)]
    levels = ""
    for tick in range(len(waves[0])):
        seen = {call(*row)[tick] for row in rows}
        levels += seen.pop() if len(seen) == 1 else "x"
    return levels


class AtAllLevels(unittest.TestCase):
    """[2.1], [2.2]"""

    def test_no(self):
        self.assertEqual(no("0"), "1")
        self.assertEqual(no("1"), "0")
        self.assertEqual(no("x"), "x")
        self.assertEqual(no("01x10x01x10x"), "10x01x10x01x")

    def test_both(self):
        self.assertEqual(both("000111xxx", "01x01x01x"), "00001x0xx")

    def test_either(self):
        self.assertEqual(either("000111xxx", "01x01x01x"), "01x111x1x")

    def test_unlike(self):
        self.assertEqual(unlike("000111xxx", "01x01x01x"), "01x10xxxx")

    def test_chosen_where_which_is_known(self):
        self.assertEqual(chosen("111111111", "000111xxx", "01x01x01x"), "000111xxx")
        self.assertEqual(chosen("000000000", "000111xxx", "01x01x01x"), "01x01x01x")

    def test_chosen_where_which_is_not_known(self):
        self.assertEqual(chosen("xxxxxxxxx", "000111xxx", "01x01x01x"), "0xxx1xxxx")

    def test_chosen_tick_by_tick(self):
        self.assertEqual(chosen("10x10x", "010101", "101101"), "00x101")

    def test_waves_of_one_and_of_twelve_ticks(self):
        self.assertEqual(both("1", "1"), "1")
        self.assertEqual(either("0", "0"), "0")
        self.assertEqual(unlike("1", "0"), "1")
        self.assertEqual(chosen("1", "0", "1"), "0")
        self.assertEqual(both("01" * 6, "1" * 12), "01" * 6)
        self.assertEqual(either("01" * 6, "1" * 12), "1" * 12)
        self.assertEqual(unlike("01" * 6, "1" * 12), "10" * 6)
        self.assertEqual(chosen("01" * 6, "x" * 12, "1" * 12), "1x" * 6)

    def test_a_wave_with_itself(self):
        self.assertEqual(both("01x", "01x"), "01x")
        self.assertEqual(either("01x", "01x"), "01x")
        self.assertEqual(unlike("01x", "01x"), "00x")
        self.assertEqual(chosen("01x", "01x", "01x"), "01x")


class OfUnknownLevels(unittest.TestCase):
    """[0.2] (b): known just where it is the same whatever the unknown levels are."""

    def test_no(self):
        for wave in waves_of(3):
            self.assertEqual(no(wave), told_of_all(no, wave))

    def test_gates_of_two_waves(self):
        for call in (both, either, unlike):
            for one in waves_of(2):
                for other in waves_of(2):
                    with self.subTest(call=call.__name__, one=one, other=other):
                        self.assertEqual(call(one, other), told_of_all(call, one, other))

    def test_chosen(self):
        for which in waves_of(2):
            for one in waves_of(2):
                for other in waves_of(2):
                    with self.subTest(which=which, one=one, other=other):
                        self.assertEqual(chosen(which, one, other), told_of_all(chosen, which, one, other))


class UnlikeLengths(unittest.TestCase):
    """[1.1], [2.1], [2.2]"""

    def test_gates_of_two_waves(self):
        for call in (both, either, unlike):
            for one, other in (("0", "01"), ("01", "0"), ("0" * 12, "0" * 11), ("x", "xx"), ("1", "0" * 12)):
                with self.subTest(call=call.__name__, one=one, other=other):
                    refuses(self, Unlike, call, one, other)

    def test_chosen_with_any_one_of_another_length(self):
        for waves in (("00", "0", "0"), ("0", "00", "0"), ("0", "0", "00"), ("00", "00", "0"), ("00", "0", "00"),
                      ("0", "00", "00"), ("0", "00", "000"), ("1" * 12, "1" * 12, "1" * 11)):
            with self.subTest(waves=waves):
                refuses(self, Unlike, chosen, *waves)


class BeyondTheBounds(unittest.TestCase):
    """The interface: nothing is refused for what lies somewhat beyond a bound, unless a point says so."""

    def test_waves_of_no_tick_and_of_more_than_12(self):
        for length in (0, 13, 15):
            low, high = "0" * length, "1" * length
            self.assertEqual(no(low), high)
            self.assertEqual(both(low, high), low)
            self.assertEqual(either(low, high), high)
            self.assertEqual(unlike(low, high), high)
            self.assertEqual(chosen(low, low, high), high)


class Kinds(unittest.TestCase):
    """[0.3]"""

    def test_waves_are_told_as_texts(self):
        for told in (no("01x"), both("01x", "xxx"), either("01x", "xxx"), unlike("01x", "xxx"),
                     chosen("01x", "01x", "xxx")):
            self.assertIs(type(told), str)


if __name__ == "__main__":
    unittest.main()
