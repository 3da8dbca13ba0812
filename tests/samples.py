"""Values that several tests share."""

from itertools import product

# All schemes there are, written out so that no code of the program is trusted.
SCHEMES = ((1, 1), (2, 2), (2, 3), (3, 4), (3, 5), (3, 6), (3, 7))


def deep_tuple():
    deep = ()
    for _ in range(15):
        deep = (deep,)
    return deep


def odd_values():
    """Values of all sorts that are no scheme, no string, no pair of registers and no number."""
    # Fresh objects for each call, since a test looks whether a call changed them.
    return [
        None, True, False, "", "22", "(2, 2)", "a\nb", "~" * 3000,
        [], [2, 2], [[2, 2]], {}, {2: 2}, {"k": [1]}, deep_tuple(), tuple([None] * 1999),
        (None,), ("1",), (True,), (False,), ([1],), ({},), ((1,),), (1, None), (1, "1"),
        (True, True), (2, True), ((2, 2),), ((2, 2), (2, 2), 0), [(), ()],
    ]


def wrong_integers():
    """Values that look like integers, or hold one, but are none."""
    return [None, True, False, "", "3", (), (3,), [3], {3: 3}, (3, 0), "three"]


def all_strings(scheme, m):
    a = scheme[1]
    return product(range(-a, a + 1), repeat=m)


def plain_value(scheme, string):
    """The value, by powers instead of step by step."""
    r = 2 ** scheme[0]
    return sum(digit * r ** place for place, digit in enumerate(reversed(string)))
