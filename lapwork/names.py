"""What counts as a name."""

# Written out, since Python's own questions for letters let signs beyond a to z by.
LETTERS = "abcdefghijklmnopqrstuvwxyz"
MOST_LETTERS = 12


def is_name(text):
    return is_lettered(text) and len(text) <= MOST_LETTERS


def is_lettered(text):
    return len(text) > 0 and all([sign in LETTERS for sign in text])
