import re
import unittest
from itertools import product

from all_waves import waves_of, waves_up_to
from edits import SIGNS, with_one_edit, with_one_line_edit
from refusals import refuses, tells_a_new_dict, tells_a_new_list
from tickrows.boards import Board, board_text, read_board
from tickrows.errors import NoBack, NoName, NoText, TickError, Unlike
from tickrows.gates import both, either, no, unlike
from tickrows.texts import read_wave, wave_text

GATES = {"no": no, "both": both, "either": either, "unlike": unlike}
NAMES = ["a", "z", "ab", "zy", "abc", "abcd", "zzzz", "no", "both", "put", "take", "x"]
NO_NAMES = ["", "abcde", "A", "aB", "a1", "0", "a b", " a", "a ", "a\n", "-", "=", "a_b", "\xe9", "\xdf", "{", "`"]


def sheet_behind(steps):
    """The sheet behind these steps; None, where one of them can not be done."""
    sheet = {}
    for step in steps:
        word, name = step[:2]
        if word == "take":
            if name not in sheet:
                return None
            del sheet[name]
            continue
        if word == "put":
            wave = step[2]
        else:
            if any(own not in sheet for own in step[3:]):
                return None
            wave = GATES[step[2]](*[sheet[own] for own in step[3:]])
        if any(len(other) != len(wave) for own, other in sheet.items() if own != name):
            return None
        sheet[name] = wave
    return sheet


def steps_by_hand(text):
    """The steps of a writing; None of another text."""
    forms = ((r"([a-z]{1,4}) = ([01x][01x.]{0,11})", "put"), (r"([a-z]{1,4}) = (no) ([a-z]{1,4})", "gate"),
             (r"([a-z]{1,4}) = (both|either|unlike) ([a-z]{1,4}) ([a-z]{1,4})", "gate"), (r"- ([a-z]{1,4})", "take"))
    steps = []
    if text != "" and not text.endswith("\n"):
        return None
    for line in text.split("\n")[:-1]:
        for form, word in forms:
            match = re.fullmatch(form, line)
            if match:
                steps.append((word,) + match.groups())
                break
        else:
            return None
        if steps[-1][0] == "put":
            try:
                steps[-1] = steps[-1][:2] + (read_wave(steps[-1][2]),)
            except NoText:
                return None
    return steps if sheet_behind(steps) is not None else None


def do(board, step):
    """A step as steps() tells it, done on a board."""
    if step[0] == "gate":
        return board.gate(step[1], step[2], step[3:])
    return getattr(board, step[0])(*step[1:])


def board_of(*steps):
    board = Board()
    for step in steps:
        do(board, step)
    return board


def told_of(board):
    return (board.sheet(), board.steps(), board.sizes(), board_text(board))


def all_told_of(board):
    """All that a board tells, also behind all that it can do again and take back."""
    told = [told_of(board)]
    other = board.twin()
    while other.sizes()[1]:
        told.append((other.forth(), told_of(other)))
    while other.sizes()[0]:
        told.append((other.back(), told_of(other)))
    return told


SOME_STEPS = [("put", "a", "0011"), ("put", "bc", "0x01"), ("gate", "d", "both", "a", "bc"), ("gate", "a", "no", "a"),
              ("take", "bc"), ("put", "d", "1111")]


class Put(unittest.TestCase):
    """[12.1]"""

    def test_a_new_board_has_no_waves(self):
        self.assertEqual(told_of(Board()), ({}, [], (0, 0), ""))

    def test_told_is_whether_a_wave_had_the_name(self):
        board = Board()
        self.assertIs(board.put("a", "01"), False)
        self.assertIs(board.put("b", "x1"), False)
        self.assertIs(board.put("a", "11"), True)
        self.assertIs(board.put("a", "11"), True)
        self.assertEqual(board.sheet(), {"a": "11", "b": "x1"})
        board.take("a")
        self.assertIs(board.put("a", "11"), False)

    def test_names_of_1_to_4_letters(self):
        for name in NAMES:
            board = Board()
            board.put(name, "0")
            self.assertEqual(board.sheet(), {name: "0"})
        for name in NO_NAMES:
            refuses(self, NoName, Board().put, name, "0")

    def test_unlike_where_any_other_wave_has_another_length(self):
        board = board_of(("put", "a", "01"))
        refuses(self, Unlike, board.put, "b", "0")
        refuses(self, Unlike, board.put, "b", "011")
        self.assertIs(board.put("a", "011"), True)
        self.assertIs(board.put("b", "000"), False)
        refuses(self, Unlike, board.put, "a", "01")
        self.assertEqual(board.sheet(), {"a": "011", "b": "000"})

    def test_no_name_comes_ahead_of_unlike(self):
        board = board_of(("put", "a", "01"))
        for name in NO_NAMES:
            refuses(self, NoName, board.put, name, "0")


class Gate(unittest.TestCase):
    """[12.1]"""

    def test_each_word(self):
        for one in waves_of(2):
            for other in waves_of(2):
                board = board_of(("put", "a", one), ("put", "b", other))
                self.assertEqual(board.gate("c", "no", ("a",)), no(one))
                self.assertEqual(board.gate("d", "both", ("a", "b")), both(one, other))
                self.assertEqual(board.gate("e", "either", ("a", "b")), either(one, other))
                self.assertEqual(board.gate("f", "unlike", ("a", "b")), unlike(one, other))
                self.assertEqual(board.sheet(), {"a": one, "b": other, "c": no(one), "d": both(one, other),
                                                 "e": either(one, other), "f": unlike(one, other)})

    def test_in_the_stead_of_a_wave_also_of_its_own(self):
        board = board_of(("put", "a", "01x"), ("put", "b", "000"))
        self.assertEqual(board.gate("a", "no", ("a",)), "10x")
        self.assertEqual(board.gate("b", "either", ("a", "b")), "10x")
        self.assertEqual(board.gate("b", "unlike", ("b", "b")), "00x")
        self.assertEqual(board.sheet(), {"a": "10x", "b": "00x"})

    def test_the_wave_stays_when_those_that_it_was_made_of_change(self):
        board = board_of(("put", "a", "01"), ("gate", "b", "no", "a"), ("put", "a", "11"))
        self.assertEqual(board.sheet(), {"a": "11", "b": "10"})
        board.take("a")
        self.assertEqual(board.sheet(), {"b": "10"})

    def test_names_that_are_none(self):
        board = board_of(("put", "a", "01"))
        for name in NO_NAMES:
            refuses(self, NoName, board.gate, name, "no", ("a",))
            refuses(self, NoName, board.gate, name, "both", ("a", "a"))
            refuses(self, NoName, board.gate, "b", "no", (name,))
            refuses(self, NoName, board.gate, "b", "either", ("a", name))
            refuses(self, NoName, board.gate, name, "unlike", ("a", "c"))

    def test_names_without_waves(self):
        board = board_of(("put", "a", "01"))
        refuses(self, NoName, board.gate, "a", "no", ("b",))
        refuses(self, NoName, board.gate, "b", "no", ("b",))
        for word in ("both", "either", "unlike"):
            refuses(self, NoName, board.gate, "c", word, ("a", "b"))
            refuses(self, NoName, board.gate, "c", word, ("b", "a"))
            refuses(self, NoName, board.gate, "c", word, ("b", "b"))
            refuses(self, NoName, Board().gate, "c", word, ("c", "c"))
        refuses(self, NoName, Board().gate, "a", "no", ("a",))

    def test_the_number_of_names_for_each_word(self):
        board = board_of(("put", "a", "01"), ("put", "b", "11"))
        for names in ((), ("a", "b"), ("a", "b", "a")):
            refuses(self, NoName, board.gate, "c", "no", names)
        for word in ("both", "either", "unlike"):
            for names in ((), ("a",), ("a", "b", "a")):
                refuses(self, NoName, board.gate, "c", word, names)

    def test_a_word_that_no_gate_has(self):
        board = board_of(("put", "a", "01"), ("put", "b", "11"))
        for word in ("chosen", "", "NO", "put", "a", "x"):
            for names in (("a",), ("a", "b")):
                refuses(self, NoName, board.gate, "c", word, names)


class Take(unittest.TestCase):
    """[12.1]"""

    def test_the_wave_goes_and_is_told(self):
        board = board_of(("put", "a", "01"), ("put", "b", "x1"))
        self.assertEqual(board.take("a"), "01")
        self.assertEqual(board.sheet(), {"b": "x1"})
        refuses(self, NoName, board.take, "a")
        self.assertEqual(board.take("b"), "x1")
        self.assertEqual(board.sheet(), {})
        self.assertIs(board.put("c", "0"), False)

    def test_no_name(self):
        for name in NAMES + NO_NAMES:
            refuses(self, NoName, Board().take, name)
            refuses(self, NoName, board_of(("put", "q", "01")).take, name)


class Steps(unittest.TestCase):
    """[12.1]"""

    def test_all_steps_that_are_done_and_not_taken_back(self):
        board = Board()
        for many, step in enumerate(SOME_STEPS):
            self.assertEqual(board.steps(), SOME_STEPS[:many])
            do(board, step)
        self.assertEqual(board.steps(), SOME_STEPS)
        self.assertEqual(board.sheet(), {"a": "1100", "d": "1111"})
        for many in range(len(SOME_STEPS) - 1, -1, -1):
            board.back()
            self.assertEqual(board.steps(), SOME_STEPS[:many])

    def test_each_form(self):
        board = Board()
        board.put("a", "01")
        board.gate("b", "no", ("a",))
        board.gate("c", "unlike", ("b", "a"))
        board.take("a")
        board.put("a", "01")
        board.put("a", "01")
        expected = [("put", "a", "01"), ("gate", "b", "no", "a"), ("gate", "c", "unlike", "b", "a"), ("take", "a"),
                    ("put", "a", "01"), ("put", "a", "01")]
        self.assertEqual(board.steps(), expected)
        self.assertEqual({type(step) for step in board.steps()}, {tuple})


class BackAndForth(unittest.TestCase):
    """[12.2], [0.2] (i)"""

    def test_words(self):
        board = board_of(("put", "a", "01"), ("gate", "b", "no", "a"), ("take", "a"))
        self.assertEqual([board.back(), board.back(), board.back()], ["take", "gate", "put"])
        self.assertEqual([board.forth(), board.forth(), board.forth()], ["put", "gate", "take"])

    def test_sheets_step_by_step(self):
        board = Board()
        sheets = [{}]
        for step in SOME_STEPS:
            do(board, step)
            sheets.append(board.sheet())
        for sheet in sheets[-2::-1]:
            board.back()
            self.assertEqual(board.sheet(), sheet)
        for sheet in sheets[1:]:
            board.forth()
            self.assertEqual(board.sheet(), sheet)
        self.assertEqual(board.sizes(), (len(SOME_STEPS), 0))

    def test_no_back_at_both_ends(self):
        board = Board()
        refuses(self, NoBack, board.back)
        refuses(self, NoBack, board.forth)
        board.put("a", "0")
        refuses(self, NoBack, board.forth)
        board.back()
        refuses(self, NoBack, board.back)
        self.assertEqual(board.sizes(), (0, 1))
        board.forth()
        refuses(self, NoBack, board.forth)
        self.assertEqual(told_of(board), ({"a": "0"}, [("put", "a", "0")], (1, 0), "a = 0\n"))

    def test_nothing_is_done_again_behind_another_step(self):
        for step in (("put", "a", "1"), ("put", "a", "0"), ("gate", "a", "no", "a"), ("take", "a")):
            board = board_of(("put", "a", "0"), ("put", "b", "1"), ("put", "c", "x"))
            board.back()
            board.back()
            self.assertEqual(board.sizes(), (1, 2))
            do(board, step)
            self.assertEqual(board.sizes(), (2, 0))
            refuses(self, NoBack, board.forth)
            board.back()
            self.assertEqual(board.sizes(), (1, 1))
            self.assertEqual(board.forth(), step[0])
            self.assertEqual(board.steps(), [("put", "a", "0"), step])

    def test_what_was_in_the_stead_of_another_comes_back(self):
        board = board_of(("put", "a", "01"), ("put", "a", "011"))
        board.back()
        self.assertEqual(board.sheet(), {"a": "01"})
        refuses(self, Unlike, board.put, "b", "011")
        board.put("b", "11")
        self.assertEqual(board.sheet(), {"a": "01", "b": "11"})

    def test_sizes(self):
        board = board_of(*SOME_STEPS)
        self.assertIs(type(board.sizes()), tuple)
        for many in range(len(SOME_STEPS)):
            self.assertEqual(board.sizes(), (len(SOME_STEPS) - many, many))
            board.back()
        self.assertEqual(board.sizes(), (0, len(SOME_STEPS)))


class RefusedSteps(unittest.TestCase):
    """[0.3]: what is refused changes nothing, also not what can be done again"""

    def test_nothing_is_changed(self):
        board = board_of(*SOME_STEPS)
        for back in range(len(SOME_STEPS) + 1):
            kept = all_told_of(board)
            refuses(self, NoName, board.put, "A", "0000")
            refuses(self, NoName, board.gate, "A", "no", ("a",))
            refuses(self, NoName, board.gate, "a", "no", ("q",))
            refuses(self, NoName, board.gate, "a", "both", ("a", "q"))
            refuses(self, NoName, board.gate, "a", "no", ("a", "a"))
            refuses(self, NoName, board.gate, "a", "both", ("a",))
            refuses(self, NoName, board.take, "q")
            if board.sheet():
                refuses(self, Unlike, board.put, "q", "00000")
            if back == 0:
                refuses(self, NoBack, board.forth)
            self.assertEqual(all_told_of(board), kept)
            if back < len(SOME_STEPS):
                board.back()
        kept = all_told_of(board)
        refuses(self, NoBack, board.back)
        self.assertEqual(all_told_of(board), kept)


class Twin(unittest.TestCase):
    """[12.2]"""

    def test_as_this_one_also_in_what_can_be_taken_back_and_done_again(self):
        for back in range(len(SOME_STEPS) + 1):
            board = board_of(*SOME_STEPS)
            for step in range(back):
                board.back()
            twin = board.twin()
            self.assertIsInstance(twin, Board)
            self.assertIsNot(twin, board)
            self.assertEqual(all_told_of(twin), all_told_of(board))

    def test_from_then_on_each_goes_by_itself(self):
        changes = [lambda board: board.put("q", "0101"), lambda board: board.gate("q", "no", ("a",)),
                   lambda board: board.take("a"), lambda board: board.back(), lambda board: board.forth()]
        for change in changes:
            board = board_of(*SOME_STEPS)
            board.back()
            board.back()
            twin = board.twin()
            kept = all_told_of(board)
            change(twin)
            self.assertEqual(all_told_of(board), kept)
            self.assertNotEqual(all_told_of(twin), kept)
            twin = board.twin()
            change(board)
            self.assertEqual(all_told_of(twin), kept)
            self.assertNotEqual(all_told_of(board), kept)

    def test_new_boards_share_nothing(self):
        one, other = Board(), Board()
        one.put("a", "0")
        self.assertEqual(told_of(other), ({}, [], (0, 0), ""))


class AllShortWalks(unittest.TestCase):
    """[12.1], [12.2], [0.2] (i)"""

    ACTIONS = [("put", "a", "01"), ("put", "b", "x0"), ("put", "a", "0"), ("gate", "b", "no", "a"),
               ("gate", "a", "unlike", "a", "b"), ("take", "a"), "back", "forth"]

    def test_against_steps_done_once_more_from_the_start(self):
        for actions in product(self.ACTIONS, repeat=5):
            board, done, undone = Board(), [], []
            for action in actions:
                done, undone = self.act(board, action, done, undone)
            self.assertEqual(board.steps(), done)
            self.assertEqual(board.sizes(), (len(done), len(undone)))
            self.assertEqual(board.sheet(), sheet_behind(done))

    def act(self, board, action, done, undone):
        """The action on the board, and what is then done, and what can be done again."""
        if action in ("back", "forth"):
            source = done if action == "back" else undone
            if not source:
                refuses(self, NoBack, getattr(board, action))
                return done, undone
            self.assertEqual(getattr(board, action)(), source[-1][0])
            if action == "back":
                return done[:-1], undone + done[-1:]
            return done + undone[-1:], undone[:-1]
        if sheet_behind(done + [action]) is None:
            with self.assertRaises(TickError):
                do(board, action)
            return done, undone
        do(board, action)
        return done + [action], []


TEXTS = {"": [], "ab = 0.1\n": [("put", "ab", "001")], "a = 0...........\n": [("put", "a", "0" * 12)],
         "a = 01\nb = no a\nab = both a b\n- a\n":
             [("put", "a", "01"), ("gate", "b", "no", "a"), ("gate", "ab", "both", "a", "b"), ("take", "a")],
         "c = x.\nd = 01\nc = either c d\ne = unlike c c\n- c\nc = 1.\n":
             [("put", "c", "xx"), ("put", "d", "01"), ("gate", "c", "either", "c", "d"),
              ("gate", "e", "unlike", "c", "c"), ("take", "c"), ("put", "c", "11")],
         "no = 0\nboth = no no\nno = both both no\n- both\n":
             [("put", "no", "0"), ("gate", "both", "no", "no"), ("gate", "no", "both", "both", "no"), ("take", "both")],
         "abcd = 0\nabcd = 0.\n- abcd\n": [("put", "abcd", "0"), ("put", "abcd", "00"), ("take", "abcd")]}


class BoardText(unittest.TestCase):
    """[13.1]"""

    def test_a_line_for_each_step(self):
        for text, steps in TEXTS.items():
            self.assertEqual(board_text(board_of(*steps)), text)
            self.assertIs(type(board_text(board_of(*steps))), str)

    def test_steps_that_are_taken_back_are_not_written(self):
        board = board_of(("put", "a", "01"), ("take", "a"))
        board.back()
        self.assertEqual(board_text(board), "a = 01\n")
        board.back()
        self.assertEqual(board_text(board), "")
        board.forth()
        self.assertEqual(board_text(board), "a = 01\n")

    def test_boards_are_not_changed(self):
        board = board_of(*SOME_STEPS)
        board.back()
        kept = all_told_of(board)
        board_text(board)
        self.assertEqual(all_told_of(board), kept)


class ReadBoard(unittest.TestCase):
    """[13.1], [0.2] (g), (i)"""

    def test_a_text_makes_the_board_again(self):
        for text, steps in TEXTS.items():
            board = read_board(text)
            self.assertIsInstance(board, Board)
            self.assertEqual(all_told_of(board), all_told_of(board_of(*steps)))

    def test_nothing_can_be_done_again_on_a_read_board(self):
        board = board_of(*SOME_STEPS)
        board.back()
        self.assertEqual(read_board(board_text(board)).sizes(), (len(SOME_STEPS) - 1, 0))

    def test_all_short_waves(self):
        for wave in waves_up_to(4):
            text = f"a = {wave_text(wave)}\nb = no a\n"
            self.assertEqual(read_board(text).sheet(), {"a": wave, "b": no(wave)})
            self.assertEqual(board_text(read_board(text)), text)

    def test_each_board_is_a_new_one(self):
        one, other = read_board("a = 0\n"), read_board("a = 0\n")
        one.take("a")
        self.assertEqual(other.sheet(), {"a": "0"})

    def test_steps_that_can_not_be_done(self):
        for text in ("- a\n", "a = no a\n", "a = 0\nb = no c\n", "a = 0\nb = both a c\n", "a = 0\nb = both c a\n",
                     "a = 0\nb = 01\n", "a = 0\n- a\n- a\n", "a = 0\n- b\n", "a = 0\nb = 0\na = 0.\n",
                     "a = 0\n- a\nb = no a\n"):
            refuses(self, NoText, read_board, text)

    def test_lines_that_are_none(self):
        for text in ("a = 0", "\n", "a = 0\n\n", "\na = 0\n", "a = 0 \n", " a = 0\n", "a  = 0\n", "a =  0\n", "a=0\n",
                     "a 0\n", "a = \n", "a =\n", "= 0\n", " = 0\n", "- = 0\n", "A = 0\n", "abcde = 0\n", "a1 = 0\n",
                     "a = 00\n", "a = .\n", "a = 0.0\n", "a = 2\n", "a = 0" + "." * 12 + "\n", "put a 0\n", "a = a\n",
                     "a = no\n", "-", "-\n", "- \n", " ", "a", "a = 0\r\n", "a == 0\n", "a = 0\n-a\n", "a = 0\n-  a\n",
                     "a = 0\n- a \n", "a = 0\n- a a\n", "a = 0\n- a", "a = 0\n+ a\n", "a = 0\nb = a\n", "a = 0\ttab\n"):
            refuses(self, NoText, read_board, text)

    def test_gates_with_another_number_of_names_or_another_word(self):
        for line in ("b = no", "b = no ", "b = no a a", "b = both", "b = both a", "b = both a ", "b = both a a a",
                     "b = either a", "b = unlike a a a", "b = nor a a", "b = chosen a a a", "b = No a", "b = a no",
                     "b = no  a", "b no a", "b = both a, a", "A = no a", "b = no A", "b = 0 a", "b = put 0", "= no a"):
            refuses(self, NoText, read_board, f"a = 0\n{line}\n")

    def test_things_that_are_no_texts(self):
        for thing in (None, True, False, 0, 1, -7, [], (), ["a = 0\n"], ("a = 0\n",), [[["a"]]], [0, None], ("", "")):
            refuses(self, NoText, read_board, thing)

    def test_texts_of_other_signs(self):
        for text in ("\xe9 = 0\n", "a = 0\u2028", "a = 0\x0b", "a = 0\x85\n", "a\xa0= 0\n", "\u0430 = 0\n",
                     "a = \uff10\n"):
            refuses(self, NoText, read_board, text)

    def test_a_sign_put_in_taken_out_or_exchanged(self):
        for text in TEXTS:
            for edited in with_one_edit(text, SIGNS):
                self.reads_just_writings(edited)

    def test_lines_left_out_told_twice_or_exchanged(self):
        for text in TEXTS:
            for edited in with_one_line_edit(text):
                self.reads_just_writings(edited)

    def test_all_short_walks_of_lines(self):
        lines = ["a = 0\n", "a = 0.\n", "b = no a\n", "a = both a b\n", "- a\n", "- b\n"]
        for length in range(5):
            for walk in product(lines, repeat=length):
                self.reads_just_writings("".join(walk))

    def reads_just_writings(self, text):
        steps = steps_by_hand(text)
        if steps is None:
            refuses(self, NoText, read_board, text)
        else:
            board = read_board(text)
            self.assertEqual(told_of(board), (sheet_behind(steps), steps, (len(steps), 0), text))


class ToldAnew(unittest.TestCase):
    """[0.3]"""

    def test_told_sheets_and_steps_are_new_ones(self):
        board = board_of(*SOME_STEPS)
        for back in range(len(SOME_STEPS) + 1):
            kept = all_told_of(board)
            tells_a_new_dict(self, board.sheet)
            tells_a_new_list(self, board.steps)
            self.assertEqual(all_told_of(board), kept)
            if board.sizes()[0]:
                board.back()

    def test_a_told_sheet_does_not_change_with_the_board(self):
        board = board_of(("put", "a", "01"))
        sheet, steps = board.sheet(), board.steps()
        board.put("a", "11")
        board.put("b", "00")
        self.assertEqual(sheet, {"a": "01"})
        self.assertEqual(steps, [("put", "a", "01")])

    def test_kinds_of_what_is_told(self):
        board = board_of(("put", "a", "01"))
        self.assertIs(type(board.gate("b", "no", ("a",))), str)
        self.assertIs(type(board.take("b")), str)
        self.assertIs(type(board.back()), str)
        self.assertIs(type(board.forth()), str)
        self.assertEqual([type(size) for size in board.sizes()], [int, int])


if __name__ == "__main__":
    unittest.main()
