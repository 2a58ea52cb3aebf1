"""Things of any kind, for tests of what is told of anything, and texts that are spoilt."""

# All that a text may have; the percent sign is left out by the document itself.
SIGNS = [chr(code) for code in range(32, 127) if chr(code) != "%"] + ["\n"]


def nested(depth, kind):
    """A list or tuple of one such thing, so many within one another."""
    thing = kind()
    for _ in range(depth):
        thing = kind([thing])
    return thing


def anything():
    """Numbers, texts, truths, None, lists and tuples, none of them of any use."""
    numbers = [0, 1, -1, 2, 7, 10 ** 12, 10 ** 60 - 1, -(10 ** 60)]
    texts = ["", " ", "\n", "x", "X", "~", "none", "read", "server", "x" * 10000, "\n" * 10000]
    flat = [None, True, False, *numbers, *texts]
    lists = [[], [[]], [()], [None], [0] * 1100, flat, nested(20, list)]
    tuples = [(), ((),), ([],), (None,), (0,) * 1100, tuple(flat), nested(20, tuple)]
    mixed = [([nested(9, tuple)],), [(nested(9, list),)], [nested(19, tuple)], (nested(19, list),)]
    return [*flat, *lists, *tuples, *mixed]


def no_texts():
    """Those of anything that are no text."""
    return [thing for thing in anything() if not isinstance(thing, str)]


def spoilt_by_a_sign(text):
    """All texts with one sign gone, put in, exchanged, or changed with the next one."""
    for at in range(len(text) + 1):
        yield text[:at] + text[at + 1:]
        yield text[:at] + text[at + 1:at + 2] + text[at:at + 1] + text[at + 2:]
        for sign in SIGNS:
            yield text[:at] + sign + text[at:]
            yield text[:at] + sign + text[at + 1:]


def spoilt_by_a_word(text, words):
    """All texts with one word gone, twice, put in, exchanged, or changed with another one."""
    parts = text.split(" ")
    for at in range(len(parts) + 1):
        yield " ".join(parts[:at] + parts[at + 1:])
        yield " ".join(parts[:at] + parts[at:at + 1] * 2 + parts[at + 1:])
        for word in words:
            yield " ".join(parts[:at] + [word] + parts[at:])
            yield " ".join(parts[:at] + [word] + parts[at + 1:])
    for one in range(len(parts)):
        for other in range(one):
            changed = list(parts)
            changed[one], changed[other] = parts[other], parts[one]
            yield " ".join(changed)
