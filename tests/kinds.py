"""Values of every kind to be passed where they are wrong, and how to ask what is raised for them."""


class Plain:
    """An object that nothing is known of."""


class Touchy:
    """An object that can only be asked for its class: whatever else is done with it fails."""

    def _refuse(self, *told):
        raise AssertionError("a wrong argument was used before it was checked")

    __eq__ = __ne__ = __lt__ = __le__ = __gt__ = __ge__ = _refuse
    __hash__ = __len__ = __bool__ = __iter__ = __contains__ = __getitem__ = _refuse
    __int__ = __index__ = __add__ = __radd__ = __str__ = __repr__ = _refuse


class LikeOne:
    """An object that Python takes for the number 1 in many places."""

    def __index__(self):
        return 1

    def __int__(self):
        return 1

    def __eq__(self, other):
        return other == 1

    def __hash__(self):
        return 1


class EqualToAll:
    """An object that says to be equal to everything."""

    def __eq__(self, other):
        return True

    def __hash__(self):
        return 0


def nested(depth):
    """Make a tuple in a tuple and so on, as deep as told."""
    value = ()
    for _ in range(depth - 1):
        value = (value,)
    return value


def no_strings_or_integers():
    """List values that are neither strings nor integers."""
    return [
        None, True, False, b"", b"aa", b"a", b"abab", (), ("aa",), ("a", "a"), (0,), (1,), [], ["aa"], ["a", "a"], [0],
        {}, {"aa": 1}, {"a": "b"}, {0: 1}, {"a"}, frozenset(["a"]), range(3), len, Plain, Plain(), Touchy(), LikeOne(),
        EqualToAll(), nested(20), [[["aa"]]], 1j,
    ]


def some_strings():
    """List strings that are neither rows nor letters nor anything else that is asked for."""
    return ["", " ", "\n", "A", "AA", "k", "kk", "z", "0", "00", "?", "??", "`", "+", "-", "aaa", "a" * 8000]


def some_integers():
    """List integers, small ones and great ones with either sign."""
    return [0, 1, 2, 5, 6, 10, 11, -1, -2, -10, 10 ** 20, 10 ** 60 - 1, 1 - 10 ** 60]


def no_rows():
    """List values of every kind that are no rows."""
    strings = [
        "a", "ab", "aab", "aba", "aaa", "aaaa", "aaab", "aabbb", "aaaabb", "abcab", "Abab", "AbAb", "abAB", "aakk",
        "kk", "a a", "aa ", " aa", "aa\n", "a\na", "a-a", "aa??", "a?b?", "aabb,", "`a`a", "jjkk", "aabbccddeeffgghhiijjkk",
        "aabbccddeeffgghhiijjaa", "aabbccddeeffgghhiijja", "abcdefghij", "ab" * 4000,
    ]
    return no_strings_or_integers() + some_strings() + some_integers() + strings


def no_integers_from_to(least, most):
    """List values of every kind that are no integers from the least to the most."""
    integers = some_integers() + [least - 1, most + 1]
    outside = [number for number in integers if not least <= number <= most]
    return no_strings_or_integers() + some_strings() + ["1", "aa"] + outside


def no_letters_of(row):
    """List values of every kind that are no letters of the row."""
    strings = ["ab", "ba", "aa", "a ", " a", "a\n", "abcdefghij", row, row[:2]]
    others = [letter for letter in "abcdefghij" if letter not in row]
    return no_strings_or_integers() + some_strings() + some_integers() + strings + others


def no_signs_of(kinds, number):
    """List values of every kind that are no string of so many of these signs."""
    first, last = kinds[0], kinds[-1]
    strings = [first * (number - 1), last * (number + 1), first * (number - 1) + " ", " " + last * (number - 1)]
    strings += [first * (number - 1) + "\n", "a" + last * (number - 1), first * 2 * number, first * (number - 1) + "0"]
    tuples = [tuple(first * number), [first * number], (first * number).encode(), {first * number: 1}]
    return no_strings_or_integers() + no_signs_in(kinds) + some_integers() + strings + tuples


def no_signs_in(kinds):
    """List strings that have other signs than these."""
    return [text for text in some_strings() if not text or [sign for sign in text if sign not in kinds]]


def raised(action, arguments, names=None):
    """Call the action, by position or with these names, and give the error that it raises, None if none."""
    try:
        if names is None:
            action(*arguments)
        else:
            action(**dict(zip(names, arguments)))
    except Exception as error:
        return error
    return None


class LikeDrawing:
    """An object that has all that a drawing has, but is none."""

    row, sides, outside, regions, size, text = "aa", "+", (-1,), ((-2, 0), (-1,), (1,)), 1, "aa + -1"


def no_drawings():
    """List values of every kind that are no drawings."""
    strings = ["aa", "abcabc", "aa + -1", "abcabc +-+ -5"]
    others = [("aa", "+", -1), ["aa", "+", -1], ("aa", "+", (-1,)), LikeDrawing(), LikeDrawing]
    return no_strings_or_integers() + some_strings() + some_integers() + strings + others
