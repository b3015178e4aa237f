"""Texts with something put in, taken out or exchanged, for tests of what is read."""

# All signs that a text may have, from the blank to ~, and the line feed.
SIGNS = [chr(number) for number in range(ord(" "), ord("~") + 1)] + ["\n"]


def with_one_edit(text, signs):
    """All texts with a sign put in, taken out or exchanged."""
    told = [text[:place] + text[place + 1:] for place in range(len(text))]
    for sign in signs:
        told += [text[:place] + sign + text[place:] for place in range(len(text) + 1)]
        told += [text[:place] + sign + text[place + 1:] for place in range(len(text)) if text[place] != sign]
    return told


def with_one_line_edit(text):
    """All texts with a line left out, told twice anywhere, or exchanged with another one."""
    lines = text.splitlines(keepends=True)
    told = []
    for place, line in enumerate(lines):
        told.append(lines[:place] + lines[place + 1:])
        told += [lines[:other] + [line] + lines[other:] for other in range(len(lines) + 1)]
        for other in range(place):
            told.append(lines[:other] + [line] + lines[other + 1:place] + [lines[other]] + lines[place + 1:])
    return ["".join(edited) for edited in told]
