"""Pictures: waves drawn in three lines, and read back."""

from tickrows.errors import NoText
from tickrows.waves import is_wave

LINES = 3
COLUMNS = {"0": "  _", "1": "_  ", "x": " ? "}
LEVELS_BY_COLUMN = {"  _": "0", "_  ": "1", " ? ": "x"}
EDGE = " ||"
UNKNOWN_EDGE = "|||"


def picture(wave):
    columns = columns_of(wave)
    return "".join([line_of(columns, row) for row in range(LINES)])


def columns_of(wave):
    columns = []
    for tick, level in enumerate(wave):
        if tick > 0:
            columns.append(column_between(wave[tick - 1], level))
        columns.append(COLUMNS[level])
    return columns


def column_between(ahead, level):
    if ahead == level:
        return COLUMNS[level]
    if ahead == "x" or level == "x":
        return UNKNOWN_EDGE
    return EDGE


def line_of(columns, row):
    return "".join([column[row] for column in columns]) + "\n"


def read_picture(text):
    # What is read off the ticks' columns is only a guess; it holds where its own picture is the very text.
    wave = levels_read(text)
    if not is_wave(wave) or picture(wave) != text:
        raise NoText("the text is no picture of a wave")
    return wave


def levels_read(text):
    lines = text.split("\n")
    if len(lines) < LINES:
        return ""
    columns = [above + middle + below for above, middle, below in zip(lines[0], lines[1], lines[2])]
    # Every second column lies between two ticks.
    return "".join([LEVELS_BY_COLUMN.get(column, "") for column in columns[::2]])
