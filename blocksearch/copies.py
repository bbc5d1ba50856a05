"""Copies of things: each list that is told is the asker's own."""


def own_copy(thing):
    """A thing like this one, with new lists."""
    if isinstance(thing, list):
        return [own_copy(one) for one in thing]
    if isinstance(thing, tuple):
        return tuple([own_copy(one) for one in thing])
    return thing
