"""Things of any kind, for tests of what is told of anything."""


def nested(depth, kind):
    """A list or tuple of one such thing, so many within one another."""
    thing = kind()
    for _ in range(depth):
        thing = kind([thing])
    return thing
