"""Point 2's words on what is told and what is handed in, for any function."""

from copy import deepcopy


def holders_in(thing):
    """All lists and dicts in a thing, and the thing itself where it's one."""
    if isinstance(thing, (list, dict)):
        yield thing
    if isinstance(thing, dict):
        thing = list(thing.items())
    if isinstance(thing, (list, tuple)):
        for item in thing:
            yield from holders_in(item)


def spoil(thing):
    """Change all lists and dicts in a thing."""
    for holder in list(holders_in(thing)):
        if isinstance(holder, list):
            holder.reverse()
            holder.append("spoilt")
        else:
            holder.clear()
            holder["spoilt"] = True


def check_own(case, ask, *handed):
    """What is told is the asker's own and told again the same; what is handed in stays as it was, and isn't kept."""
    before = deepcopy(handed)
    told = ask(*handed)
    case.assertEqual(handed, before)
    known = {id(holder) for holder in holders_in(handed)}
    known_told = [holder for holder in holders_in(told)]
    case.assertEqual(len({id(holder) for holder in known_told}), len(known_told))
    case.assertFalse(known & {id(holder) for holder in known_told})
    first = deepcopy(told)
    again = ask(*handed)
    case.assertEqual(again, first)
    case.assertFalse({id(holder) for holder in holders_in(again)} & {id(holder) for holder in known_told})
    spoil(told)
    case.assertEqual(again, first)
    case.assertEqual(handed, before)
    case.assertEqual(ask(*handed), first)
    spoil(handed)
    case.assertEqual(again, first)
    case.assertEqual(ask(*before), first)
    return first
