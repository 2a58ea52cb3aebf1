"""Clocks that run too fast or too slow, and how long they let a lease be used."""

from pagelend.setups import DRIFT, LENGTH

# A clock's rate is in hundredths, so each hundred ticks it stands in the same
# part of a shown tick again: what holds of an asking holds a hundred later.
TURN = 100


def shown(clock, time):
    """Tell what the clock shows at a time."""
    rate, ahead = clock
    return (time * rate + ahead) // 100


def span(length, drift):
    """Tell how much more the clock shows when the lease is used no more."""
    return length * (100 - drift) // 100


def is_used(clock, asked, time, *, length=LENGTH, drift=DRIFT):
    """Tell whether a lease asked for at one time is used at another."""
    if time < asked:
        return False
    return shown(clock, time) - shown(clock, asked) < span(length, drift)


def last_use(clock, asked, *, length=LENGTH, drift=DRIFT):
    """Tell the last time at which a lease is used."""
    rate, ahead = clock
    over = shown(clock, asked) + span(length, drift)
    return (100 * over - 1 - ahead) // rate


def first_unsafe(clock, *, length=LENGTH, drift=DRIFT):
    """Tell the least asking of a lease that is used too late, None without one."""
    for asked in range(TURN):
        # A clock never goes back, so a later use comes with one just here.
        if is_used(clock, asked, asked + length, length=length, drift=drift):
            return asked
    return None


def is_safe(clock, *, length=LENGTH, drift=DRIFT):
    """Tell whether no lease is ever used as late as its length."""
    return first_unsafe(clock, length=length, drift=drift) is None
