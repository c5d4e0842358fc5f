"""A desk: a program's text with asks, and the answers."""

from sameworth.away import taken_away
from sameworth.blocks import rows_of
from sameworth.differing import MOST_TRIES, differing
from sameworth.errors import BadRow
from sameworth.homes import home_of
from sameworth.putting import put_ins
from sameworth.roomless import numbers_with_rooms, roomless
from sameworth.rows import has_worth, is_reckoning
from sameworth.runs import run
from sameworth.seen import seen_from
from sameworth.texts import numbers_by, program_in

MOST_STEPS_ASKED = 2000
ASKS = {
    "numbers": (),
    "alike": ("row", "row"),
    "differ": ("row", "row"),
    "home": ("row",),
    "seen": ("block", "row", "row"),
    "away": (),
    "put": (),
    "run": ("number", "number", "number", "number", "number", "number"),
}


class Desk:
    """A program, and what is made of it without rooms."""

    def __init__(self, program):
        self.program = program
        self.rows = rows_of(program)
        self.plain, self.bearers = roomless(program)

    def can_be_asked(self, number, kind):
        """Whether a number that is asked for is that of a row with a worth, or of a block, that is there."""
        if kind == "row":
            return number < len(self.rows) and has_worth(self.rows[number])
        return kind != "block" or number < len(self.program)


def words_or_none(words):
    """Words by blanks, or what is told where there are none."""
    return " ".join(words) if words else "-"


def yes_or_no(truth):
    return "yes" if truth else "no"


def answer_numbers(desk, numbers):
    return words_or_none(["-" if least is None else str(least) for least in numbers_with_rooms(desk.program)])


def answer_alike(desk, numbers):
    leasts = numbers_with_rooms(desk.program)
    return yes_or_no(leasts[numbers[0]] == leasts[numbers[1]])


def answer_differ(desk, numbers):
    one, other = [desk.bearers[row] for row in numbers]
    return " ".join([str(word) for word in differing(desk.plain, one, other, MOST_TRIES)])


def answer_home(desk, numbers):
    return str(home_of(desk.plain, desk.bearers[numbers[0]]))


def answer_seen(desk, numbers):
    seen = seen_from(desk.plain, numbers[0])
    one, other = [seen[desk.bearers[row]] for row in numbers[1:]]
    if one is None or other is None:
        return "-"
    return yes_or_no(one == other)


def answer_away(desk, numbers):
    return str(reckonings_in(desk.plain) - reckonings_in(taken_away(desk.plain)[0]))


def reckonings_in(program):
    return len([row for row in rows_of(program) if is_reckoning(row)])


def answer_put(desk, numbers):
    return words_or_none([f"{head}:{lead}:{block}" for head, lead, block in put_ins(desk.plain)])


def answer_run(desk, numbers):
    state, told, done = run(desk.program, numbers, MOST_STEPS_ASKED)
    return " ".join([state] + [str(worth) for worth in told])


ANSWERS = {
    "numbers": answer_numbers,
    "alike": answer_alike,
    "differ": answer_differ,
    "home": answer_home,
    "seen": answer_seen,
    "away": answer_away,
    "put": answer_put,
    "run": answer_run,
}


def run_desk(text):
    """The list of the answers to a desk's text; refused with BadRow or NoProgram ahead of all of them."""
    lines = text.split("\n")
    parting = lines.index("") if "" in lines else len(lines)
    desk = Desk(program_in(lines[:parting]))
    asks = []
    for number in range(parting + 1, len(lines)):
        ask = ask_in(desk, lines[number].split(" "))
        if ask is None:
            raise BadRow(number)
        asks.append(ask)
    return [answer_to(desk, word, numbers) for word, numbers in asks]


def ask_in(desk, words):
    """A pair of an ask's word and the list of its numbers, None where words aren't an ask of the desk's program."""
    kinds = ASKS.get(words[0])
    if kinds is None:
        return None
    numbers = numbers_by(words[1:], kinds)
    if numbers is None or not all(desk.can_be_asked(number, kind) for number, kind in zip(numbers, kinds)):
        return None
    return (words[0], numbers)


def answer_to(desk, word, numbers):
    answer = ANSWERS[word]
    return answer(desk, numbers)
