"""Texts: setups and steps, written and read back."""

from pagelend.errors import NoText
from pagelend.kinds import is_name
from pagelend.setups import is_setup

FIGURES = "0123456789"
MOST_FIGURES = 12

# What stands behind the first word of a step.
PARTS = {
    "read": ("name", "name", "number"), "write": ("name", "name", "number", "number"),
    "ask": ("name",), "pass": ("number",), "deliver": ("number",), "drop": ("number",),
    "save": ("name", "name"), "yield": ("name", "name"), "fall": ("name",), "crash": (),
}

# The words of a setup's text, each ahead of what it tells.
HEADS = ("files", "clients", "length", "drift")


def number_of(word):
    """Tell the number that is written so, None where it is none."""
    if not 1 <= len(word) <= MOST_FIGURES or not all([sign in FIGURES for sign in word]):
        return None
    if word[0] == "0" and word != "0":
        return None
    return int(word)


def part_of(kind, word):
    """Tell the name or number that is written so, None where it is none."""
    if kind == "number":
        return number_of(word)
    return word if is_name(word) else None


def step_of(text):
    """Tell the step that is written so, None where it is none."""
    words = text.split(" ")
    kinds = PARTS.get(words[0])
    if kinds is None or len(words) != len(kinds) + 1:
        return None
    parts = [part_of(kind, word) for kind, word in zip(kinds, words[1:])]
    return None if None in parts else (words[0], *parts)


def row_of(text):
    """Tell a setup's file or client that is written so; None stands for a wrong number."""
    words = text.split(":")
    numbers = [number_of(word) for word in words[1:]]
    return (words[0], *numbers)


def rows_of(text):
    """Tell a setup's files or clients that are written so."""
    return tuple([row_of(part) for part in text.split(",")])


def setup_of(text):
    """Tell the setup that is written so, None where it is none."""
    words = text.split(" ")
    if len(words) != 8 or tuple(words[::2]) != HEADS:
        return None
    files, clients, length, drift = words[1::2]
    setup = (rows_of(files), rows_of(clients), number_of(length), number_of(drift))
    return setup if is_setup(setup) else None


def rows_text(rows):
    """Write a setup's files or clients."""
    return ",".join([":".join([str(part) for part in row]) for row in rows])


def setup_text(setup):
    """Write a setup."""
    files, clients, length, drift = setup
    return f"files {rows_text(files)} clients {rows_text(clients)} length {length} drift {drift}"


def step_text(step):
    """Write a step."""
    return " ".join([str(part) for part in step])


def steps_text(steps):
    """Write steps, by lines."""
    return "\n".join([step_text(step) for step in steps])


def read_setup(text):
    """Read a setup; NoText, of anything, where it is none."""
    setup = setup_of(text) if isinstance(text, str) else None
    if setup is None:
        raise NoText()
    return setup


def read_step(text):
    """Read a step; NoText, of anything, where it is none."""
    step = step_of(text) if isinstance(text, str) else None
    if step is None:
        raise NoText()
    return step


def read_steps(text):
    """Read steps, empty lines left out; NoText, of anything, with the first line that is none."""
    if not isinstance(text, str):
        raise NoText()
    steps = []
    for at, line in enumerate(text.split("\n"), start=1):
        step = step_of(line)
        if step is not None:
            steps.append(step)
        elif line:
            raise NoText(at)
    return steps
