"""Programs' texts: written and read."""

from sameworth.errors import BadRow, NoProgram
from sameworth.programs import is_program
from sameworth.rows import END_PARTS, ROW_PARTS
from sameworth.words import number_of_kind

# Parts of these kinds are several numbers, and stand last in a text's row.
SEVERAL = ("parts", "rooms")


def program_text(program):
    """The text of a program."""
    written = []
    for rows, end in program:
        written.append("block")
        for row in rows:
            written.append(text_of(row, ROW_PARTS[row[0]]))
        written.append(text_of(end, END_PARTS[end[0]]))
    return "\n".join(written)


def text_of(thing, kinds):
    """The text of a row or an end."""
    single = []
    group = []
    for kind, part in zip(kinds, thing[1:]):
        if kind in SEVERAL:
            group.extend(part)
        else:
            single.append(part)
    return " ".join([thing[0]] + [str(number) for number in single + group])


def read_program(text):
    """The program that a text is of; refused with BadRow or NoProgram."""
    return program_in(text.split("\n"))


def program_in(lines):
    """The program that the list of a text's rows is of; refused likewise."""
    program = []
    rows = None
    for number, line in enumerate(lines):
        words = line.split(" ")
        row = thing_in(words, ROW_PARTS.get(words[0]))
        end = thing_in(words, END_PARTS.get(words[0]))
        if rows is None and line == "block":
            rows = []
        elif rows is not None and row is not None:
            rows.append(row)
        elif rows is not None and end is not None:
            program.append((rows, end))
            rows = None
        else:
            raise BadRow(number)
    if rows is not None or not program:
        raise BadRow(len(lines))
    if not is_program(program):
        raise NoProgram("the text is written as a program's, but isn't of a right one")
    return program


def thing_in(words, kinds):
    """The row or the end that words are by the kinds of its parts, None of others; kinds None: there's no such word."""
    if kinds is None:
        return None
    several = [kind for kind in kinds if kind in SEVERAL]
    asked = [kind for kind in kinds if kind not in SEVERAL]
    single = len(asked)
    # At least one of several.
    asked.extend(several * max(1, len(words) - 1 - single))
    numbers = numbers_by(words[1:], asked)
    if numbers is None:
        return None
    parts = numbers[:single]
    for kind in several:
        parts.insert(kinds.index(kind), tuple(numbers[single:]))
    return (words[0], *parts)


def numbers_by(words, kinds):
    """The list of the numbers that words are by their kinds, None where they aren't just so."""
    if len(words) != len(kinds):
        return None
    numbers = [number_of_kind(word, kind) for word, kind in zip(words, kinds)]
    return None if None in numbers else numbers
