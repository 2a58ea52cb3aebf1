"""Histories of one page: whether one can have been, with an order, or why it can not.

The tasks of one value stand side by side in an order, its write first. Where a
value is open, no other one can stand between its first end and its last begin;
where it is not, all of its tasks can be done at one moment from its last begin
to its first end. So it is enough to look at these two times of each value.
"""

from pagelend.kinds import GREATEST_VALUE, are_unlike, is_number, is_tuple, is_within

MOST_TASKS = 60
LAST_TIME = 10 ** 6


def is_history_row(thing):
    """Tell whether it is a row (task, kind, value, begin, end)."""
    if not is_tuple(thing, 5, 5):
        return False
    task, kind, value, begin, end = thing
    if not is_number(task) or kind not in ("read", "write"):
        return False
    least = 1 if kind == "write" else 0
    if not is_within(value, least, GREATEST_VALUE):
        return False
    return is_within(begin, 0, LAST_TIME) and is_within(end, begin + 1, LAST_TIME)


def is_history(thing):
    """Tell of anything whether it is a history."""
    if not isinstance(thing, list) or len(thing) > MOST_TASKS:
        return False
    if not all([is_history_row(row) for row in thing]):
        return False
    written = [row[2] for row in thing if row[1] == "write"]
    if not are_unlike(written) or not are_unlike([row[0] for row in thing]):
        return False
    return all([row[2] == 0 or row[2] in written for row in thing])


def sees_last_writes(rows):
    """Tell whether each read has the value of the last write ahead of it."""
    last = 0
    for task, kind, value, begin, end in rows:
        if kind == "write":
            last = value
        elif value != last:
            return False
    return True


def keeps_times(rows):
    """Tell whether none stands behind one that began when it was over."""
    latest = 0
    for task, kind, value, begin, end in rows:
        if end < latest:
            return False
        latest = max(latest, begin)
    return True


def is_order(history, tasks):
    """Tell whether the tasks are an order of the history."""
    by_task = {row[0]: row for row in history}
    if sorted(tasks) != sorted(by_task):
        return False
    rows = [by_task[task] for task in tasks]
    return keeps_times(rows) and sees_last_writes(rows)


def zones_of(history):
    """Tell of each value, 0 too, the first end and the last begin."""
    zones = {0: (-1, -1)}
    for task, kind, value, begin, end in history:
        first, last = zones.get(value, (end, begin))
        zones[value] = (min(first, end), max(last, begin))
    return zones


def is_open_zone(zone):
    """Tell whether a value of this first end and last begin is open."""
    first, last = zone
    return first < last


def clash(one, other):
    """Tell whether each first end is less than the last begin of the other one."""
    return one[0] < other[1] and other[0] < one[1]


def early_reasons(history):
    """Tell all reads that are over ahead of the write of their value."""
    writes = {row[2]: row for row in history if row[1] == "write"}
    reads = [row for row in history if row[1] == "read" and row[2] in writes]
    pairs = [(read, writes[read[2]]) for read in reads]
    return [("early", read[0], write[0]) for read, write in pairs if read[4] < write[3]]


def both_reasons(zones):
    """Tell all pairs of values, both open, of which neither can be ahead."""
    wide = [value for value in sorted(zones) if is_open_zone(zones[value])]
    pairs = [(one, other) for one in wide for other in wide if one < other]
    return [("both", one, other) for one, other in pairs if clash(zones[one], zones[other])]


def within_reasons(zones):
    """Tell all pairs of an open value and one that is not, and lies within it."""
    wide = [value for value in sorted(zones) if is_open_zone(zones[value])]
    small = [value for value in sorted(zones) if not is_open_zone(zones[value])]
    pairs = [(one, other) for one in wide for other in small]
    return [("within", one, other) for one, other in pairs if clash(zones[one], zones[other])]


def reasons_of(history):
    """Tell all that shows that the history has no order, by words as they go first."""
    zones = zones_of(history)
    return early_reasons(history) + both_reasons(zones) + within_reasons(zones)


def place_of(zone):
    """Tell where a value stands among the others: a moment, and 1 where it is open.

    An open one begins at its first end, and all of another one is done at its last
    begin; this goes first where both are one moment, as it can not be behind.
    """
    first, last = zone
    return (min(first, last), 1 if is_open_zone(zone) else 0)


def order_of(history):
    """Tell an order of a history that has one."""
    zones = zones_of(history)
    keys = []
    for task, kind, value, begin, end in history:
        behind = 1 if kind == "read" else 0
        keys.append((place_of(zones[value]), value, behind, begin, task))
    return [key[4] for key in sorted(keys)]


def ordered(history):
    """Tell ("order", tasks), or a reason why there is no order."""
    reasons = reasons_of(history)
    if reasons:
        return reasons[0]
    return ("order", order_of(history))


def shows_none(history, reason):
    """Tell whether a reason is just so, and shows that the history has no order."""
    return reason in reasons_of(history)
