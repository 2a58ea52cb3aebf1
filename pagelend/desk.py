"""The desk: a world that is told rows of words, and answers with texts."""

from pagelend.clients import DONE
from pagelend.errors import NoList, NoRow, TooDeep
from pagelend.logs import first_stale
from pagelend.setups import MOST
from pagelend.texts import number_of, read_setup, step_of
from pagelend.worlds import World

MOST_UNDER_WAY = 3
NONE = "none"


def joined(texts, between):
    """Join texts; none without any."""
    return between.join(texts) if texts else NONE


def undo_last(desk):
    """Take back what was done last."""
    desk.world.take_back()
    return DONE


def tell_time(desk):
    """Tell the time."""
    return str(desk.world.time())


def tell_value(desk, file, page):
    """Tell the server's value of a page."""
    number = number_of(page)
    if number is None:
        raise NoRow("a page is a number")
    return str(desk.world.value(file, number))


def tell_wire(desk):
    """Tell the messages on the wire."""
    rows = [f"{number}:{source}:{to}:{what[0]}" for number, source, to, what in desk.world.wire()]
    return joined(rows, " ")


def tell_holds(desk, file):
    """Tell the holds of a file."""
    rows = [hold[:5] for hold in desk.world.holds(file)]
    return joined([f"{name}:{kind}:{low}:{mark}:{end}" for name, kind, low, mark, end in rows], " ")


def tell_dirty(desk, client, file):
    """Tell what a client did not hear as saved."""
    return joined([f"{row[0]}:{row[1]}" for row in desk.world.dirty(client, file)], " ")


def tell_lost(desk):
    """Tell the tasks lost."""
    return joined([str(task) for task in desk.world.lost()], " ")


def tell_stale(desk):
    """Tell the first stale read."""
    task = first_stale(desk.world.log())
    return NONE if task is None else str(task)


def do_list(desk, name):
    """Say the rows of a list, one behind the other."""
    if name not in desk.lists:
        raise NoList(name)
    if desk.depth == MOST_UNDER_WAY:
        raise TooDeep("too many lists are under way")
    desk.depth += 1
    answers = []
    for row in desk.lists[name]:
        answers.append(desk.answer(row))
    desk.depth -= 1
    return joined(answers, "; ")


def tell_depth(desk):
    """Tell how many lists are under way."""
    return str(desk.depth)


def tell_said(desk):
    """Tell how many things the desk was told."""
    return str(desk.told)


ROWS = {
    "undo": undo_last, "time": tell_time, "value": tell_value, "wire": tell_wire,
    "holds": tell_holds, "dirty": tell_dirty, "lost": tell_lost, "stale": tell_stale,
    "do": do_list, "depth": tell_depth, "said": tell_said,
}

# How many words stand behind the first one.
BEHIND = {
    "undo": 0, "time": 0, "value": 2, "wire": 0, "holds": 1, "dirty": 2, "lost": 0, "stale": 0,
    "do": 1, "depth": 0, "said": 0,
}


def words_of(row):
    """Tell the words of a row that is no step; NoRow where it is none."""
    words = row.split(" ")
    if words[0] not in BEHIND or len(words) != BEHIND[words[0]] + 1:
        raise NoRow("it is no row of a desk")
    if "" in words or "\n" in row:
        raise NoRow("a row has a word that is none")
    return words


class Desk:
    """A desk with one world, of a setup's text, and with lists of rows."""

    def __init__(self, text, *, lists=(), most=MOST):
        self.world = World(read_setup(text), most=most)
        self.lists = {name: tuple(rows) for name, rows in lists}
        self.depth = 0
        self.told = 0

    def say(self, row):
        """Say a row, and tell its answer."""
        try:
            return self.answer(row)
        finally:
            # Whatever was refused, and wherever, no list is under way any more.
            self.depth = 0

    def answer(self, row):
        """Answer a row, of a list or not; whatever it is, it was told."""
        self.told += 1
        if not isinstance(row, str):
            raise NoRow("a row is a text")
        step = step_of(row)
        if step is not None:
            return str(self.world.do(step))
        words = words_of(row)
        action = ROWS[words[0]]
        parts = words[1:]
        return action(self, *parts)
