"""What is told is new and the asker's own: a look at this for any function and what it is handed."""

import copy


def lists_in(thing):
    """Each list in the thing, as often as it stands there."""
    if isinstance(thing, (list, tuple)):
        if isinstance(thing, list):
            yield thing
        for part in thing:
            yield from lists_in(part)


def spoil(thing):
    """Does something to each list in the thing."""
    for each in list(lists_in(thing)):
        each.append("spoiled")
        each.reverse()


def told_once(case, ask, *handed):
    """What is told, looked at: nothing handed in is changed or kept, and each list is a new one."""
    before = copy.deepcopy(handed)
    told = ask(*handed)
    case.assertEqual(handed, before)
    answer = copy.deepcopy(told)
    places = [id(each) for each in lists_in(told)]
    case.assertEqual(len(places), len(set(places)))
    case.assertFalse(set(places) & {id(each) for each in lists_in(handed)})
    spoil(ask(*handed))
    case.assertEqual(handed, before)
    case.assertEqual(repr(told), repr(answer))
    case.assertEqual(repr(ask(*handed)), repr(answer))
    kept = copy.deepcopy(handed)
    other = ask(*kept)
    spoil(kept)
    case.assertEqual(repr(other), repr(answer))
    return told
