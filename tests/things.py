"""Anything that checkers may be asked of, and one thing of right ones otherwise."""

DEEP = [[[[[[[[[[]]]]]]]]]]

JUNK = [
    None, True, False, "", "x", "sums", "0", 0, 1, 2, 3, 5, -1, 99, 10 ** 30, -(10 ** 30),
    (), {}, [0], (0,), (0, 0), (0, 1), {0: 1}, {"rows": []}, ["takes"], ("takes",), ("meets",), ("parts",),
    ("sums", [], []), ("tests", [], []), ("picks", [], []), (1, 0, ("takes",)), [(1, 0, ("takes",))],
    [()], [[]], [None], [True], ["a"], [{}], DEEP, (0, []), (1, [0]), [(0, 0, 0)], [(1, 0, None)],
    {"a": [(1, {2: (3, [None, {}])})]},
]


def variants(thing, junk):
    """All that come of a thing by one other item, one more, one fewer, or the other kind of row of things."""
    if not isinstance(thing, (list, tuple)):
        return
    kind, items = type(thing), list(thing)
    yield tuple(items) if kind is list else items
    for at in range(len(items)):
        yield kind(items[:at] + items[at + 1:])
        yield kind(items[:at] + [items[at]] + items[at:])
        for other in junk:
            yield kind(items[:at] + [other] + items[at + 1:])
        for other in variants(items[at], junk):
            yield kind(items[:at] + [other] + items[at + 1:])
    for other in junk:
        yield kind(items + [other])


def numbers_otherwise(thing, numbers):
    """All that come of a thing by another one of these numbers at one place where a number is."""
    if type(thing) is int:
        yield from numbers
    elif isinstance(thing, (list, tuple)):
        for at, item in enumerate(thing):
            for other in numbers_otherwise(item, numbers):
                yield type(thing)(list(thing[:at]) + [other] + list(thing[at + 1:]))
