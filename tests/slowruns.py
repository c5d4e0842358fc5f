"""Point 6 taken word by word: all that happens in a run as a list of events, then cut where steps end."""

from tests import oracle

GREAT = 10 ** 40


def first_rows(program):
    firsts = [0]
    for rows, end in program:
        firsts.append(firsts[-1] + len(rows))
    return firsts


def reckon(row, takes, rooms, last):
    word, *args = row
    if word == "take":
        return takes[args[0]]
    if word == "num":
        return args[0]
    if word == "pick":
        return last[args[1][last[args[0]] % len(args[1])]]
    if word == "look":
        return rooms[args[0][last[args[1]] % len(args[0])]]
    a, b = (last[name] for name in args)
    return {"sum": a + b, "less": a - b, "times": a * b, "same": int(a == b), "below": int(a < b)}[word]


def events(program, takes, limit=10 ** 6):
    """The list of ("come", block) and ("do", row, worth, told), then ("ended",) or ("great",) where there's one."""
    leads, firsts = oracle.leads_of(program), first_rows(program)
    rooms, last, happened, lead, block = [0] * 6, {}, [], None, 0
    while len(happened) < limit:
        happened.append(("come", block))
        rows, end = program[block]
        before = dict(last)
        for at, row in enumerate(rows):
            number, told, worth = firsts[block] + at, [], None
            if row[0] == "lay":
                rooms[row[1][last[row[2]] % len(row[1])]] = last[row[3]]
            elif row[0] == "tell":
                told = [last[row[1]]]
            else:
                meets = row[0] == "meet"
                worth = before[row[1][leads[block].index(lead)]] if meets else reckon(row, takes, rooms, last)
                if abs(worth) > GREAT:
                    return happened + [("great",)]
                last[number] = worth
            happened.append(("do", number, worth, told))
        if end[0] == "end":
            return happened + [("ended",)]
        lead, block = block, end[1] if end[0] == "go" else end[2] if last[end[1]] else end[3]
    return happened


def cut(happened, most):
    """What run and way_of tell by so many steps."""
    steps, rest = happened[:most], happened[most:]
    state = "going"
    if steps and len(steps[-1]) == 1:
        state = steps.pop()[0]
    elif rest and rest[0] == ("ended",):
        state = "ended"
    told = [worth for step in steps if step[0] == "do" for worth in step[3]]
    done = [step[1:3] for step in steps if step[0] == "do"]
    return (state, told, done), [step[1] for step in steps if step[0] == "come"]
