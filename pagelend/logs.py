"""Logs: what is true of a page by a log, and which read saw something else."""

from pagelend.kinds import is_name, is_number, is_tuple, is_whole, is_within

MOST_ROWS = 1000
LAST_PAGE = 3
WORDS = ("began", "read", "wrote", "lost")


def is_log_row(thing):
    """Tell whether it is a row (time, word, task, client, file, page, value)."""
    if not is_tuple(thing, 7, 7):
        return False
    time, word, task, client, file, page, value = thing
    if not is_number(time) or word not in WORDS or not is_number(task):
        return False
    if not is_name(client) or not is_name(file) or not is_within(page, 0, LAST_PAGE):
        return False
    return is_whole(value) or value is None and word == "began"


def is_log(thing):
    """Tell of anything whether it is a log."""
    if not isinstance(thing, list) or len(thing) > MOST_ROWS:
        return False
    return all([is_log_row(row) for row in thing])


def last_value(writes, lost):
    """Tell the value of the last write, (task, value), that is not lost, 0 without one."""
    for task, value in reversed(writes):
        if task not in lost:
            return value
    return 0


def truth(log, file, page):
    """Tell the value that a page has by a log."""
    lost = {row[2]: True for row in log if row[1] == "lost"}
    rows = [row for row in log if row[1] == "wrote" and row[4:6] == (file, page)]
    return last_value([(row[2], row[6]) for row in rows], lost)


def first_stale(log):
    """Tell the first read that saw something else than the truth, None without one."""
    lost = {}
    writes = {}
    for time, word, task, client, file, page, value in log:
        place = (file, page)
        if word == "lost":
            lost[task] = True
        elif word == "wrote":
            writes.setdefault(place, []).append((task, value))
        elif word == "read" and value != last_value(writes.get(place, []), lost):
            return task
    return None
