"""Objects of all the kinds that may be passed where the document says "any object"."""

BIG = 10 ** 30

NESTED = [[[[[["a", 1]]]]], (True, None)]

# No string here is a name, and no number is an integer that a test has somewhere.
NO_NAMES = [
    None, True, False, 0, 1, -1, BIG, -BIG,
    "", " ", "A", "aB", "a1", "a b", "a-b", "a\n", "\na", "`", "{", "abcdefghi", "x" * 400,
    [], ["a"], ["a", "b"], (), ("a",), ("a", 1), NESTED,
]

NO_INTEGERS = [
    None, True, False, "", "1", "a", "-1", "x" * 400,
    [], [1], (), (1,), (1, 2), NESTED,
]
