"""Whether a thing is written as a program is, whatever blocks and rows it names."""

from sameworth.rows import END_PARTS, ROW_PARTS


def is_number(thing):
    return isinstance(thing, int) and not isinstance(thing, bool)


def is_place(thing):
    return is_number(thing) and 0 <= thing <= 5


def is_parts(thing):
    return isinstance(thing, tuple) and len(thing) > 0 and all(is_number(part) for part in thing)


def is_rooms(thing):
    if not isinstance(thing, tuple) or not 1 <= len(thing) <= 4:
        return False
    return all(is_place(room) for room in thing) and len(set(thing)) == len(thing)


CHECKS = {
    "number": is_number,
    "row": is_number,
    "block": is_number,
    "place": is_place,
    "parts": is_parts,
    "rooms": is_rooms,
}


def word_of(thing):
    """The word that a row or an end begins with; of things that can be neither the bare text."""
    if isinstance(thing, tuple) and thing and isinstance(thing[0], str):
        return thing[0]
    return ""


def fits(thing, kinds):
    """Whether behind its word a thing has parts of just these kinds; kinds None: there's no such word."""
    if kinds is None or len(thing) != len(kinds) + 1:
        return False
    for kind, part in zip(kinds, thing[1:]):
        check = CHECKS[kind]
        if not check(part):
            return False
    return True


def is_row(thing):
    return fits(thing, ROW_PARTS.get(word_of(thing)))


def is_end(thing):
    return fits(thing, END_PARTS.get(word_of(thing)))


def is_block(thing):
    if not isinstance(thing, tuple) or len(thing) != 2:
        return False
    rows, end = thing
    return isinstance(rows, list) and all(is_row(row) for row in rows) and is_end(end)


def is_written(thing):
    """Whether a thing is a list of blocks, one at least, of rows and ends as they must be written."""
    return isinstance(thing, list) and len(thing) > 0 and all(is_block(block) for block in thing)
