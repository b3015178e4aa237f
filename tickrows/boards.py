"""Boards of waves made by names, which go back, and their texts."""

from tickrows.errors import NoBack, NoName, NoText, Unlike
from tickrows.gates import both, either, no, unlike
from tickrows.sheets import wave_of, with_wave, without_wave
from tickrows.texts import is_name, read_wave, wave_text

# How many waves the gate of each word takes.
GATE_SIZES = {"no": 1, "both": 2, "either": 2, "unlike": 2}


class Board:
    def __init__(self):
        # Rows of a step and the sheet behind it; such a sheet is never changed, so that twins may share it.
        self.done = []
        self.undone = []

    def put(self, name, wave):
        refuse_no_name(name)
        ahead = self.sheet()
        self.do_step(("put", name, wave), with_wave(ahead, name, wave))
        return name in ahead

    def gate(self, name, word, names):
        refuse_no_name(name)
        ahead = self.sheet()
        wave = gate_wave(word, [wave_of(ahead, own) for own in names])
        self.do_step(("gate", name, word) + tuple(names), with_wave(ahead, name, wave))
        return wave

    def take(self, name):
        ahead = self.sheet()
        self.do_step(("take", name), without_wave(ahead, name))
        return ahead[name]

    def do_step(self, step, behind):
        self.done.append((step, behind))
        self.undone.clear()

    def sheet(self):
        return dict(self.done[-1][1]) if len(self.done) > 0 else {}

    def steps(self):
        return [step for step, behind in self.done]

    def back(self):
        return move_last(self.done, self.undone)

    def forth(self):
        return move_last(self.undone, self.done)

    def sizes(self):
        return (len(self.done), len(self.undone))

    def twin(self):
        board = Board()
        board.done.extend(self.done)
        board.undone.extend(self.undone)
        return board


def refuse_no_name(name):
    if not is_name(name):
        raise NoName(f"{name!r} is no name")


def gate_wave(word, waves):
    if len(waves) != GATE_SIZES.get(word):
        raise NoName(f"{word!r} is no gate of so many waves")
    if word == "no":
        return no(waves[0])
    if word == "both":
        return both(waves[0], waves[1])
    if word == "either":
        return either(waves[0], waves[1])
    return unlike(waves[0], waves[1])


def move_last(source, target):
    if len(source) == 0:
        raise NoBack("there is no such step")
    row = source.pop()
    target.append(row)
    step = row[0]
    return step[0]


def board_text(board):
    return "".join([step_text(step) for step in board.steps()])


def step_text(step):
    name = step[1]
    if step[0] == "take":
        return f"- {name}\n"
    made = wave_text(step[2]) if step[0] == "put" else " ".join(step[2:])
    return f"{name} = {made}\n"


def read_board(text):
    if not isinstance(text, str):
        raise NoText("a board is written as a text")
    board = Board()
    for line in text.split("\n")[:-1]:
        do_line(board, line)
    # A last line without its end is left out above, and so are signs that no step is written with.
    if board_text(board) != text:
        raise NoText("the text is no writing of a board")
    return board


def do_line(board, line):
    try:
        do_words(board, line.split(" "))
    except (NoName, Unlike):
        raise NoText(f"the step {line!r} can not be done") from None


def do_words(board, words):
    if len(words) == 2 and words[0] == "-":
        board.take(words[1])
    elif len(words) == 3 and words[1] == "=":
        board.put(words[0], read_wave(words[2]))
    elif len(words) > 3 and words[1] == "=":
        board.gate(words[0], words[2], tuple(words[3:]))
    else:
        raise NoText("a step is put, gate or take")
