"""Books as texts."""

from weirkeepers.books import Book
from weirkeepers.errors import NotText
from weirkeepers.promises import Promise


def _is_order(rights, orders, words):
    """True if the words are a line of an order, behind the orders that are told."""
    if len(words) < 3 or words[1] not in rights.river or words[1] in orders:
        return False
    return all([word in rights for word in words[2:]])


def _is_promise(rights, words):
    """True if the words are a line of a promise; its weir need not be known."""
    if len(words) != 3 and (len(words) != 5 or words[3] != "at"):
        return False
    return words[1] in rights and words[2] in rights


def _is_line(rights, orders, words):
    """True if the words are those of a line of a book, behind the orders that are told."""
    if "" in words:
        return False
    if words[0] == "order":
        return _is_order(rights, orders, words)
    return words[0] == "give" and _is_promise(rights, words)


def read_book(rights, text):
    """The book that a text tells."""
    if len(rights) == 0 and text == "":
        return Book(rights, {})
    orders = {}
    promises = []
    for number, line in enumerate(text.split("\n")):
        words = line.split(" ")
        if not _is_line(rights, orders, words):
            raise NotText(number)
        if words[0] == "order":
            orders[words[1]] = words[2:]
        else:
            promises.append(Promise(words[1], words[2], words[4] if len(words) == 5 else None))
    return Book(rights, orders, promises)


def write_book(book):
    """The text of a book: its orders, then its promises weir by weir."""
    orders = book.orders()
    lines = [" ".join(("order", weir) + orders[weir]) for weir in orders]
    lines.extend([f"give {giver} {taker} at {weir}" for weir, giver, taker in book.promises])
    return "\n".join(lines)
