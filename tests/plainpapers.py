"""The plain reading of papers: all grounds that hold, and things changed at one place."""

import itertools

from plain import matches_plainly, places


def yes_grounds(query, page):
    """All yes grounds that hold, by point 44; the first one told first."""
    kind, *parts = query
    if kind == "and":
        return [("all", *rest) for rest in products([yes_grounds(part, page) for part in parts])]
    if kind == "or":
        return [("some", which, ground) for which, part in enumerate(parts) for ground in yes_grounds(part, page)]
    if kind == "but":
        return [("but", yes, no) for yes in yes_grounds(parts[0], page) for no in no_grounds(parts[1], page)]
    return [("at", *(place if kind == "near" else (place,))) for place in places(query, page)]


def no_grounds(query, page):
    """All no grounds that hold, by point 44; the first one told first."""
    kind, *parts = query
    if kind == "and":
        return [("lacks", which, ground) for which, part in enumerate(parts) for ground in no_grounds(part, page)]
    if kind == "or":
        return [("all", *rest) for rest in products([no_grounds(part, page) for part in parts])]
    if kind == "but":
        return [("first", ground) for ground in no_grounds(parts[0], page)] + [
            ("second", ground) for ground in yes_grounds(parts[1], page)]
    return [] if matches_plainly(query, page) else [("none",)]


def products(rows):
    """All tuples of one of each row, in turn, those with the first ones ahead."""
    return list(itertools.product(*rows))


def put_at(thing, path, new):
    """A copy of nested lists and tuples with another thing at one place."""
    if not path:
        return new
    parts = list(thing)
    parts[path[0]] = put_at(parts[path[0]], path[1:], new)
    return tuple(parts) if isinstance(thing, tuple) else parts


def all_paths(thing, path=()):
    """Each place of nested lists and tuples, with what stands there."""
    yield path, thing
    if isinstance(thing, (list, tuple)):
        for at, one in enumerate(thing):
            yield from all_paths(one, path + (at,))


def is_like(thing, other):
    """Whether two things are equal and of the same kinds throughout."""
    if type(thing) is not type(other):
        return False
    if isinstance(thing, (list, tuple)):
        return len(thing) == len(other) and all(map(is_like, thing, other))
    return thing == other
