"""The tokens of a line of a question, and what is read of them one by one (points 41 and 42)."""

from shedbook.errors import Malformed, ShedError
from shedbook.texts import read_value
from shedbook.values import is_word

QUOTE = "\""
SIGNS = ("(", ")", ":")
ENDS = " ():\""
THAT = "that."
RESERVED = ("and", "or", "not", "is", "differs", "below", "above", "by")


class Fault(ShedError):
    """A line of a question is wrong; the reader of questions adds the number of the line."""

    def __init__(self, column, reason):
        self.column = column
        self.reason = reason


class Tokens:
    """The tokens of a line, as tuples of a sort, a content and a column, and which one is next."""

    def __init__(self, text):
        self.found = split_tokens(text)
        self.place = 0
        self.end = len(text.rstrip(" ")) + 1

    def is_done(self):
        """Tell whether no token is left."""
        return self.place == len(self.found)

    def look(self):
        """Return the next token, which must be there."""
        if self.is_done():
            raise Fault(self.end, "missing token")
        return self.found[self.place]

    def take(self):
        """Return the next token, which must be there, and go on behind it."""
        token = self.look()
        self.place += 1
        return token

    def is_next(self, sort, content):
        """Tell whether the next token is there and is this one."""
        return not self.is_done() and self.look()[:2] == (sort, content)

    def is_word_next(self):
        """Tell whether the next token is there and is a word."""
        return not self.is_done() and self.look()[0] == "word"


def split_tokens(text):
    """Return the list of the tokens of a line."""
    tokens = []
    start = 0
    while start < len(text):
        if text[start] == " ":
            start += 1
        else:
            end = end_of_token(text, start)
            tokens.append(read_token(text[start:end], start + 1))
            start = end
    return tokens


def end_of_token(text, start):
    """Return the place behind the token that begins at a place."""
    if text[start] in SIGNS:
        return start + 1
    if text[start] == QUOTE:
        closing = text.find(QUOTE, start + 1)
        if closing < 0:
            raise Fault(start + 1, "unterminated word")
        return closing + 1
    end = start
    while end < len(text) and text[end] not in ENDS:
        end += 1
    return end


def read_token(text, column):
    """Return the token with this text."""
    if text in SIGNS:
        return ("sign", text, column)
    if text.startswith(QUOTE):
        return ("quoted", read_quoted(text, column), column)
    if text.startswith("-") or text[0].isdigit():
        return ("number", read_number(text, column), column)
    if is_word(text):
        return ("word", text, column)
    if text.startswith(THAT) and is_word(text[len(THAT):]):
        return ("that", text[len(THAT):], column)
    raise Fault(column, "invalid token")


def read_quoted(text, column):
    """Return the word between the quotes."""
    word = text[1:-1]
    if not is_word(word):
        raise Fault(column, "invalid word")
    return word


def read_number(text, column):
    """Return the number with this written form."""
    try:
        return read_value(text)
    except Malformed:
        raise Fault(column, "invalid number") from None


def take_number(tokens, low, high, reason):
    """Return the number that comes next; give the reason if it is not from low to high."""
    sort, number, column = tokens.take()
    if sort != "number":
        raise Fault(column, "number expected")
    if not low <= number <= high:
        raise Fault(column, reason)
    return number


def take_word(tokens, words, reason):
    """Return the word that comes next; give the reason if it is none of the words."""
    sort, word, column = tokens.take()
    if sort != "word" or word not in words:
        raise Fault(column, reason)
    return word


def take_kind(tokens):
    """Return the kind that comes next."""
    sort, word, column = tokens.take()
    if sort != "word":
        raise Fault(column, "kind expected")
    return word


def take_name(tokens):
    """Return the name that comes next."""
    sort, word, column = tokens.take()
    if sort not in ("word", "that"):
        raise Fault(column, "name expected")
    if word in RESERVED:
        raise Fault(column, "reserved word")
    return ("that" if sort == "that" else "this", word)


def check_end(tokens):
    """Raise a fault if a token is left."""
    if not tokens.is_done():
        raise Fault(tokens.look()[2], "extra token")


def write_name(name):
    """Return the written form of a name."""
    side, word = name
    return THAT + word if side == "that" else word
