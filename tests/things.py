"""Things of every kind, for tests of what takes any thing."""

NO_TEXTS = [
    0, 1, -1, 7, 10 ** 399, True, False, None,
    [], ["a"], ["a", "b"], [["a"]], (), ("a",), ("a", "b"), (("a",),), [None], [1], (1, 2),
    [[[[[[[["a"]]]]]]]],
]
NO_WORDS = NO_TEXTS + [
    "", " ", "a b", " a", "a ", "A", "aB", "a1", "1", "-", "~", "a\n", "\n", "`", "{",
    "a" * 13, "z" * 20000,
]
WORDS = ["a", "z", "ab", "word", "m" * 11, "a" * 12, "z" * 12, "abcdefghijkl", "mnopqrstuvwx", "yz"]

NO_WHOLES = [
    True, False, None, "", "1", "a", [], [1], [[1]], (), (1,), ((1,),), [None], (True,), "7 a",
]

NO_QUERIES = NO_TEXTS + NO_WORDS + NO_WHOLES + [
    ("a",), ("word", ("word", "a")), (("word", "a"),), "word", "word a", ["word", "a"], ("word", "A"), ("phrase", "a"),
    ("near", True, "a", "b"), ("and", ("word", "a")), ("but", ("word", "a"), ["word", "b"]),
]
