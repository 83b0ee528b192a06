"""Text formats: logs and chains as texts, each with exactly one text."""

from backlinks.chains import leads_down
from backlinks.errors import InvalidChain, InvalidText
from backlinks.links import is_log, require_log

# The text of the log without any link.
NO_LINKS = "-"
# No entry of a log is written with more digits.
ENTRY_DIGITS = 3


def show_log(links):
    """Returns the text of a log."""
    require_log(links)
    return _joined(" ", links[1:]) if len(links) > 1 else NO_LINKS


def read_log(text):
    """Returns the log with this text."""
    if text == NO_LINKS:
        return [0]
    links = [0] + _numbers_in(text, " ")
    if not is_log(links):
        raise InvalidText("this is not the text of a log")
    return links


def show_chain(links, chain):
    """Returns the text of a chain of the log."""
    require_log(links)
    if not leads_down(links, chain):
        raise InvalidChain("this is not a chain of the log")
    return _joined(">", chain)


def read_chain(links, text):
    """Returns the chain of the log with this text."""
    require_log(links)
    chain = _numbers_in(text, ">")
    if not leads_down(links, chain):
        raise InvalidText("this is not the text of a chain of the log")
    return chain


def number_in(word, digits):
    """Returns the number that a word stands for, written with at most so many digits, or None."""
    # Some signs beyond ASCII are digits, too, for Python.
    if len(word) > digits or not word.isascii() or not word.isdigit():
        return None
    number = int(word)
    return number if str(number) == word else None


def _joined(sign, numbers):
    """Returns the text of numbers with a sign between."""
    return sign.join([str(number) for number in numbers])


def _numbers_in(text, sign):
    """Returns the numbers of any text with a sign between, with None for each part that is none."""
    if not isinstance(text, str):
        raise InvalidText("this is not a text")
    return [number_in(word, ENTRY_DIGITS) for word in text.split(sign)]
