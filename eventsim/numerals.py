"""Numbers and other parts in texts."""


def join_parts(parts):
    """Return the text of parts, which are words or numbers, with one space between them."""
    return " ".join([str(part) for part in parts])


def read_number(text, most_digits):
    """Return the number that is written in a text, or None if it is none, has leading zeros or too many digits."""
    if not text.isascii() or not text.isdigit() or len(text) > most_digits:
        return None
    if text[0] == "0" and len(text) > 1:
        return None
    return int(text)
