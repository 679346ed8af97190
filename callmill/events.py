"""Words, patterns of events, and hand-overs."""

LETTERS = "abcdefghijklmnopqrstuvwxyz"
LONGEST_WORD = 8


def is_word(text):
    """Whether the text is one to eight small letters."""
    if not 1 <= len(text) <= LONGEST_WORD:
        return False
    # Python's own islower and isalpha let by letters outside a to z.
    return all([sign in LETTERS for sign in text])


def shown_pattern(pattern):
    """The pattern's text, as it stands behind `on`."""
    return " ".join([str(part) for part in pattern])


def hand_text(line, word):
    """The text that is said where the word is handed to the line."""
    return f"{line}:{word}"
