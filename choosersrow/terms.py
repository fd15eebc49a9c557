"""Terms and their texts."""

from choosersrow.errors import InvalidTerm, InvalidText

LETTERS = "abcdefghijklmnopqrstuvwxyz"
DIGITS = "0123456789"
LONGEST_WORD = 12
LONGEST_NUMBER = 9
NUMBERS_END = 1000000000
DEEPEST_TUPLE = 30


def is_number(value):
    """Return whether the value is an integer."""
    # True and False are no numbers here, but Python counts them as integers.
    return isinstance(value, int) and not isinstance(value, bool)


def is_below(value, limit):
    """Return whether the value is a number from 0 to the limit minus one."""
    return is_number(value) and 0 <= value < limit


def is_word(value):
    """Return whether the value is a word."""
    if not isinstance(value, str) or not 1 <= len(value) <= LONGEST_WORD:
        return False
    return all([letter in LETTERS for letter in value])


def write_term(term):
    """Return the text of the term."""
    path = wrong_part(term, 1)
    if path is not None:
        raise InvalidTerm(path)
    return text_of(term)


def wrong_part(term, depth):
    """Return the path of the first wrong part, or None; a tuple in this place is so many tuples deep."""
    if not isinstance(term, tuple):
        return None if is_word(term) or is_below(term, NUMBERS_END) else ()
    if depth > DEEPEST_TUPLE:
        return ()
    for index, item in enumerate(term):
        path = wrong_part(item, depth + 1)
        if path is not None:
            return (index,) + path
    return None


def text_of(term):
    """Return the text of a term without wrong parts."""
    if not isinstance(term, tuple):
        return str(term)
    return "(" + " ".join([text_of(item) for item in term]) + ")"


def read_term(text):
    """Return the term with the text."""
    term, end = read_part(text, 0, 1)
    if end < len(text):
        raise InvalidText(end)
    return term


def read_part(text, start, depth):
    """Return the term whose text begins at the start, and the index behind it."""
    sign = text[start:start + 1]
    if sign == "(" and depth <= DEEPEST_TUPLE:
        return read_tuple(text, start + 1, depth)
    if sign == "0":
        # A number has no leading zero, so no digit can follow this one.
        return 0, start + 1
    end = run_end(text, start, LETTERS, LONGEST_WORD)
    if end > start:
        return text[start:end], end
    end = run_end(text, start, DIGITS, LONGEST_NUMBER)
    if end > start:
        return int(text[start:end]), end
    raise InvalidText(start)


def run_end(text, start, signs, most):
    """Return the index behind the signs that stand in the text from the start on, at most so many."""
    end = start
    while end < len(text) and end < start + most and text[end] in signs:
        end += 1
    return end


def read_tuple(text, start, depth):
    """Return the tuple whose first item or closing parenthesis is at the start, and the index behind it."""
    if text[start:start + 1] == ")":
        return (), start + 1
    items = []
    place = start
    while True:
        item, end = read_part(text, place, depth + 1)
        items.append(item)
        if text[end:end + 1] == ")":
            return tuple(items), end + 1
        if text[end:end + 1] != " ":
            raise InvalidText(end)
        place = end + 1


def read_headed(text, head, many, numbers):
    """Return the term with the text, a tuple of so many items: first the head, then so many numbers."""
    term = read_term(text)
    if not isinstance(term, tuple) or len(term) != many or term[0] != head:
        raise InvalidTerm(())
    for item in term[1:numbers + 1]:
        if not is_number(item):
            raise InvalidTerm(())
    return term
