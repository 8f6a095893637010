"""Strings over a few signs."""


def all_strings(signs, number):
    """List all strings of so many of these signs, in the order of the signs."""
    made = [""]
    for _ in range(number):
        made = [text + sign for text in made for sign in signs]
    return made
