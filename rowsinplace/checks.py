"""What counts as an integer and as a name, asked of any object."""


def is_integer(thing):
    """Whether a thing is an integer; True and False are none."""
    return isinstance(thing, int) and not isinstance(thing, bool)


def is_name(thing):
    """Whether a thing is a string of 1 to 8 letters a to z."""
    if not isinstance(thing, str) or len(thing) < 1 or len(thing) > 8:
        return False
    return all(["a" <= letter <= "z" for letter in thing])
