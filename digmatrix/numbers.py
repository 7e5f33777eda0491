"""Names and numbers as texts write them."""

FIGURES = "0123456789"
NAME_SIGNS = "abcdefghijklmnopqrstuvwxyz0123456789-"
LONGEST_NAME = 12
MOST_FIGURES = 60


def is_name(text):
    return 1 <= len(text) <= LONGEST_NAME and is_made_of(text, NAME_SIGNS)


def read_number(text):
    figures = text[1:] if text.startswith("-") else text
    if not 1 <= len(figures) <= MOST_FIGURES:
        return None
    # Sign by sign, since int and isdigit take more than the ten figures.
    if not is_made_of(figures, FIGURES):
        return None
    # The one number that begins with a nought is 0 itself; -0 is none.
    if figures.startswith("0") and text != "0":
        return None
    return int(text)


def is_made_of(text, signs):
    return all([sign in signs for sign in text])
