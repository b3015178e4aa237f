import unittest

from all_waves import waves_of, waves_up_to
from refusals import refuses
from tickrows.errors import NoTick, TooLong
from tickrows.waves import (
    changes, falls, is_known, is_wave, joined, later, level_at, of_spans, part, rises, slower, spans, turned_about,
    with_level,
)

MOST = 12


def nested(thing, depth, kind):
    for _ in range(depth):
        thing = kind([thing])
    return thing


class IsWave(unittest.TestCase):
    """[1.1], [0.3]"""

    def test_lengths(self):
        for sign in "01x":
            self.assertIs(is_wave(""), False)
            self.assertIs(is_wave(sign), True)
            self.assertIs(is_wave(sign * 2), True)
            self.assertIs(is_wave(sign * 12), True)
            self.assertIs(is_wave(sign * 13), False)
            self.assertIs(is_wave(sign * 1000), False)

    def test_all_short_texts_of_levels(self):
        for wave in waves_up_to(4):
            self.assertIs(is_wave(wave), True)

    def test_mixed_levels(self):
        self.assertIs(is_wave("01x10x01x10x"), True)
        self.assertIs(is_wave("01x10x01x10x0"), False)

    def test_other_signs(self):
        for sign in "2X-. _?zo\n\t\x00O|9\u0660\u0661\uff10\uff11\u0445\u00d7":
            for text in (sign, sign + "0", "0" + sign, "0" + sign + "1", "x" * 11 + sign):
                with self.subTest(text=text):
                    self.assertIs(is_wave(text), False)

    def test_texts_of_several_levels_are_not_taken_for_signs(self):
        self.assertIs(is_wave("01x "), False)
        self.assertIs(is_wave("0,1"), False)

    def test_things_that_are_no_texts(self):
        things = [0, 1, -1, 10, 101, 10 ** 40, True, False, None, [], (), [None], (True, False), [0, 1], (0, 1)]
        for thing in things:
            with self.subTest(thing=thing):
                self.assertIs(is_wave(thing), False)

    def test_lists_and_tuples_of_levels(self):
        for thing in (["0"], ("0",), ["0", "1", "x"], ("0", "1", "x"), ["01x"], ("01x", "01x"), [["0"], "1"]):
            with self.subTest(thing=thing):
                self.assertIs(is_wave(thing), False)

    def test_deep_things(self):
        for kind in (list, tuple):
            for leaf in (0, True, None, "0", "01x"):
                for depth in (1, 2, 10, 12):
                    with self.subTest(kind=kind.__name__, leaf=leaf, depth=depth):
                        self.assertIs(is_wave(nested(leaf, depth, kind)), False)

    def test_what_is_handed_in_is_not_changed(self):
        thing = ["0", ["1", ["x"]], None]
        is_wave(thing)
        self.assertEqual(thing, ["0", ["1", ["x"]], None])


class IsKnown(unittest.TestCase):
    """[1.1]"""

    def test_without_x(self):
        for wave in waves_up_to(4, "01"):
            self.assertIs(is_known(wave), True)
        self.assertIs(is_known("010101010101"), True)

    def test_with_x(self):
        for wave in ("x", "xx", "x0", "0x", "1x1", "x" * 12, "x00000000000", "11111111111x", "00000x111111"):
            with self.subTest(wave=wave):
                self.assertIs(is_known(wave), False)


class LevelAt(unittest.TestCase):
    """[1.2]"""

    def test_each_tick(self):
        wave = "01x10x"
        self.assertEqual([level_at(wave, tick) for tick in range(6)], ["0", "1", "x", "1", "0", "x"])

    def test_first_and_last_tick(self):
        self.assertEqual(level_at("1", 0), "1")
        self.assertEqual(level_at("x00000000001", 0), "x")
        self.assertEqual(level_at("x00000000001", 11), "1")

    def test_no_tick(self):
        for wave in ("0", "01x", "1" * 12):
            for tick in (-1, -2, -len(wave), -len(wave) - 1, len(wave), len(wave) + 1, 100):
                with self.subTest(wave=wave, tick=tick):
                    refuses(self, NoTick, level_at, wave, tick)


class WithLevel(unittest.TestCase):
    """[1.2]"""

    def test_first_middle_and_last_tick(self):
        self.assertEqual(with_level("000", 0, "1"), "100")
        self.assertEqual(with_level("000", 1, "x"), "0x0")
        self.assertEqual(with_level("000", 2, "1"), "001")
        self.assertEqual(with_level("x", 0, "0"), "0")
        self.assertEqual(with_level("1" * 12, 11, "x"), "11111111111x")

    def test_each_tick_and_level_of_all_short_waves(self):
        for wave in waves_up_to(4):
            for tick in range(len(wave)):
                for level in "01x":
                    told = with_level(wave, tick, level)
                    expected = list(wave)
                    expected[tick] = level
                    self.assertEqual(told, "".join(expected))

    def test_no_tick(self):
        for wave in ("0", "01x", "1" * 12):
            for tick in (-1, -2, -len(wave), -len(wave) - 1, len(wave), len(wave) + 1, 100):
                with self.subTest(wave=wave, tick=tick):
                    refuses(self, NoTick, with_level, wave, tick, "0")


class Changes(unittest.TestCase):
    """[1.2]"""

    def test_changes(self):
        self.assertEqual(changes("0"), [])
        self.assertEqual(changes("xxxx"), [])
        self.assertEqual(changes("0110"), [(1, "0", "1"), (3, "1", "0")])
        self.assertEqual(changes("0x1"), [(1, "0", "x"), (2, "x", "1")])
        self.assertEqual(changes("1x0x"), [(1, "1", "x"), (2, "x", "0"), (3, "0", "x")])
        self.assertEqual(changes("000000000001"), [(11, "0", "1")])
        self.assertEqual([row[0] for row in changes("010101010101")], list(range(1, 12)))

    def test_changes_of_all_short_waves(self):
        for wave in waves_up_to(5):
            expected = []
            for tick in range(1, len(wave)):
                ahead = level_at(wave, tick - 1)
                if level_at(wave, tick) != ahead:
                    expected.append((tick, ahead, level_at(wave, tick)))
            self.assertEqual(changes(wave), expected)

    def test_rises_and_falls(self):
        self.assertEqual(rises("0110"), [1])
        self.assertEqual(falls("0110"), [3])
        self.assertEqual(rises("010101010101"), [1, 3, 5, 7, 9, 11])
        self.assertEqual(falls("010101010101"), [2, 4, 6, 8, 10])
        self.assertEqual(rises("1"), [])
        self.assertEqual(falls("0"), [])
        self.assertEqual(rises("1000"), [])
        self.assertEqual(falls("0111"), [])

    def test_x_beside_0_and_1_is_no_rise_and_no_fall(self):
        for wave in ("0x1", "1x0", "0x", "x0", "1x", "x1", "x1x0x", "xx"):
            with self.subTest(wave=wave):
                self.assertEqual(rises(wave), [])
                self.assertEqual(falls(wave), [])
        self.assertEqual(rises("x01x0x1x01"), [2, 9])
        self.assertEqual(falls("x10x1x0x10"), [2, 9])

    def test_rises_and_falls_are_among_the_changes(self):
        for wave in waves_up_to(5):
            self.assertEqual(rises(wave), [row[0] for row in changes(wave) if row[1:] == ("0", "1")])
            self.assertEqual(falls(wave), [row[0] for row in changes(wave) if row[1:] == ("1", "0")])


class Spans(unittest.TestCase):
    """[1.3], [0.2] (a)"""

    def test_spans(self):
        self.assertEqual(spans("0"), [(0, 1, "0")])
        self.assertEqual(spans("x" * 12), [(0, 12, "x")])
        self.assertEqual(spans("0011x0"), [(0, 2, "0"), (2, 2, "1"), (4, 1, "x"), (5, 1, "0")])
        self.assertEqual(spans("01"), [(0, 1, "0"), (1, 1, "1")])
        self.assertEqual(spans("011111111111"), [(0, 1, "0"), (1, 11, "1")])

    def test_stretches_are_as_long_as_can_be_and_come_to_the_wave(self):
        for wave in waves_up_to(6):
            rows = spans(wave)
            self.assertEqual("".join([level * many for tick, many, level in rows]), wave)
            self.assertEqual([tick for tick, many, level in rows], [0] + [row[0] for row in changes(wave)])
            self.assertTrue(all(many >= 1 for tick, many, level in rows))
            self.assertEqual(of_spans([(many, level) for tick, many, level in rows]), wave)

    def test_of_spans(self):
        self.assertEqual(of_spans([(1, "x")]), "x")
        self.assertEqual(of_spans([(2, "0"), (3, "1"), (1, "x")]), "00111x")
        self.assertEqual(of_spans([(12, "1")]), "1" * 12)
        self.assertEqual(of_spans([(6, "0"), (6, "1")]), "000000111111")

    def test_stretches_of_no_ticks(self):
        self.assertEqual(of_spans([(0, "1"), (2, "0"), (0, "x"), (1, "1"), (0, "0")]), "001")
        self.assertEqual(of_spans([(0, "1"), (12, "0"), (0, "1")]), "0" * 12)

    def test_neighbours_of_one_level(self):
        self.assertEqual(of_spans([(1, "0"), (2, "0"), (1, "1"), (1, "1")]), "00011")
        self.assertEqual(of_spans([(1, "0"), (0, "1"), (2, "0")]), "000")

    def test_too_long_with_no_tick(self):
        for rows in ([], [(0, "0")], [(0, "0"), (0, "1"), (0, "x")]):
            with self.subTest(rows=rows):
                refuses(self, TooLong, of_spans, rows)

    def test_too_long_with_more_than_12(self):
        for rows in ([(13, "0")], [(12, "0"), (1, "1")], [(1, "x")] * 13, [(6, "0"), (0, "1"), (7, "0")],
                     [(100, "0")], [(10 ** 30, "x")]):
            with self.subTest(rows=rows):
                refuses(self, TooLong, of_spans, rows)

    def test_rows_handed_in_are_not_changed(self):
        rows = [(1, "0"), (0, "1"), (2, "0")]
        of_spans(rows)
        self.assertEqual(rows, [(1, "0"), (0, "1"), (2, "0")])
        too_long = [(12, "0"), (1, "1")]
        refuses(self, TooLong, of_spans, too_long)
        self.assertEqual(too_long, [(12, "0"), (1, "1")])


class Joined(unittest.TestCase):
    """[1.4], [0.2] (a)"""

    def test_the_other_stands_behind_the_one(self):
        self.assertEqual(joined("01", "x"), "01x")
        self.assertEqual(joined("x", "01"), "x01")
        self.assertEqual(joined("0", "1"), "01")

    def test_too_long_just_beyond_12(self):
        for many in range(1, MOST):
            self.assertEqual(joined("0" * many, "1" * (MOST - many)), "0" * many + "1" * (MOST - many))
            refuses(self, TooLong, joined, "0" * many, "1" * (MOST - many + 1))
        refuses(self, TooLong, joined, "0" * 12, "1")
        refuses(self, TooLong, joined, "1", "0" * 12)
        refuses(self, TooLong, joined, "x" * 12, "x" * 12)

    def test_parts_joined_are_the_wave(self):
        for wave in waves_of(6) + ["01x10x01x10x"]:
            for cut in range(1, len(wave)):
                self.assertEqual(joined(part(wave, 0, cut), part(wave, cut, len(wave) - cut)), wave)


class Slower(unittest.TestCase):
    """[1.4]"""

    def test_each_tick_so_often(self):
        self.assertEqual(slower("01x", 1), "01x")
        self.assertEqual(slower("01x", 2), "0011xx")
        self.assertEqual(slower("01x", 4), "00001111xxxx")
        self.assertEqual(slower("1", 12), "1" * 12)
        self.assertEqual(slower("0110", 3), "000111111000")

    def test_too_long_just_where_it_is_due(self):
        for length in range(1, 13):
            wave = ("01x" * 4)[:length]
            for by in range(0, 15):
                with self.subTest(length=length, by=by):
                    if 1 <= length * by <= 12:
                        self.assertEqual(slower(wave, by), "".join([level * by for level in wave]))
                    else:
                        refuses(self, TooLong, slower, wave, by)
        refuses(self, TooLong, slower, "0", 10 ** 30)


class Part(unittest.TestCase):
    """[1.4]"""

    def test_those_ticks_that_there_are(self):
        self.assertEqual(part("01x10", 0, 5), "01x10")
        self.assertEqual(part("01x10", 1, 3), "1x1")
        self.assertEqual(part("01x10", 4, 1), "0")
        self.assertEqual(part("01x10", 4, 2), "0")
        self.assertEqual(part("01x10", 3, 100), "10")
        self.assertEqual(part("01x10", 0, 10 ** 30), "01x10")
        self.assertEqual(part("0", 0, 1), "0")

    def test_too_long_just_where_there_are_none(self):
        for wave in ("0", "01x", "01x10x01x10x"):
            for start in range(0, 15):
                for many in range(0, 15):
                    with self.subTest(wave=wave, start=start, many=many):
                        levels = [wave[tick] for tick in range(start, start + many) if tick < len(wave)]
                        if levels:
                            self.assertEqual(part(wave, start, many), "".join(levels))
                        else:
                            refuses(self, TooLong, part, wave, start, many)


class Later(unittest.TestCase):
    """[1.4]"""

    def test_later(self):
        self.assertEqual(later("0110", 1, "x"), "x011")
        self.assertEqual(later("0110", 3, "1"), "1110")
        self.assertEqual(later("0110x0110x01", 2, "x"), "xx0110x0110x")

    def test_by_nothing(self):
        for wave in waves_up_to(4):
            for level in "01x":
                self.assertEqual(later(wave, 0, level), wave)

    def test_by_the_length_and_by_more(self):
        for wave in ("0", "01x", "01x10x01x10x"):
            for level in "01x":
                for more in (0, 1, 2, 12, 10 ** 30):
                    self.assertEqual(later(wave, len(wave) + more, level), level * len(wave))

    def test_each_tick(self):
        wave = "01x10x01x10x"
        for by in range(0, 15):
            for level in "01x":
                told = later(wave, by, level)
                expected = [level if tick < by else wave[tick - by] for tick in range(len(wave))]
                self.assertEqual(told, "".join(expected))


class TurnedAbout(unittest.TestCase):
    """[1.4]"""

    def test_turned_about(self):
        self.assertEqual(turned_about("0"), "0")
        self.assertEqual(turned_about("01x"), "x10")
        self.assertEqual(turned_about("00000000001x"), "x10000000000")

    def test_all_short_waves(self):
        for wave in waves_up_to(5):
            told = turned_about(wave)
            self.assertEqual([told[tick] for tick in range(len(wave))],
                             [wave[len(wave) - 1 - tick] for tick in range(len(wave))])


class BeyondTheBounds(unittest.TestCase):
    """The interface: nothing is refused for what lies somewhat beyond a bound, unless a point says so."""

    def test_waves_of_no_tick(self):
        for call in (changes, rises, falls, spans):
            self.assertEqual(call(""), [])
        self.assertIs(is_known(""), True)
        self.assertEqual(turned_about(""), "")
        self.assertEqual(later("", 2, "0"), "")
        self.assertEqual(joined("", "01"), "01")
        refuses(self, NoTick, level_at, "", 0)
        refuses(self, NoTick, with_level, "", 0, "1")
        refuses(self, TooLong, joined, "", "")
        refuses(self, TooLong, slower, "", 2)
        refuses(self, TooLong, part, "", 0, 1)

    def test_waves_of_more_than_12_ticks(self):
        wave = "0" * 12 + "1"
        self.assertEqual(level_at(wave, 12), "1")
        self.assertEqual(with_level(wave, 12, "0"), "0" * 13)
        self.assertEqual(rises(wave), [12])
        self.assertEqual(spans(wave), [(0, 12, "0"), (12, 1, "1")])
        self.assertEqual(later(wave, 1, "x"), "x" + "0" * 12)
        self.assertEqual(turned_about(wave), "1" + "0" * 12)
        self.assertEqual(part(wave, 1, 12), "0" * 11 + "1")

    def test_numbers_below_0(self):
        self.assertEqual(of_spans([(-1, "0"), (2, "1")]), "11")
        self.assertEqual(later("01x", -1, "0"), "01x")
        self.assertEqual(part("01x", -1, 3), "01")
        refuses(self, TooLong, part, "01x", 0, -1)
        refuses(self, TooLong, part, "01x", -2, 2)
        refuses(self, TooLong, slower, "01x", -1)


class ToldAnew(unittest.TestCase):
    """[0.3]"""

    def test_a_told_list_may_be_changed_and_the_same_is_told_again(self):
        for call in (changes, rises, falls, spans):
            for wave in ("01x100110x01", "0"):
                with self.subTest(call=call.__name__, wave=wave):
                    told = call(wave)
                    kept = list(told)
                    told.append("more")
                    told.reverse()
                    self.assertEqual(call(wave), kept)
                    self.assertIsNot(call(wave), call(wave))

    def test_kinds_of_what_is_told(self):
        for call in (changes, spans):
            told = call("01x1")
            self.assertIs(type(told), list)
            self.assertTrue(all(type(row) is tuple for row in told))
        for call in (rises, falls):
            self.assertIs(type(call("0101")), list)
            self.assertTrue(all(type(tick) is int for tick in call("0101")))
        for told in (of_spans([(1, "0")]), joined("0", "1"), slower("0", 2), part("01", 0, 1), later("01", 1, "x"),
                     turned_about("01"), level_at("01", 0), with_level("01", 0, "x")):
            self.assertIs(type(told), str)


if __name__ == "__main__":
    unittest.main()
