"""Copies: stores that exchange lines and rules by letters (point 75)."""

from shedbook.errors import Duplicate, NotFound, Refused
from shedbook.images import pack_store
from shedbook.rules import check_rule
from shedbook.store import Store

FORMS_OF_LETTERS = ("forget", "erase")


def new_copy(schemas):
    """Return a new store with these schemas."""
    store = Store()
    for kind in schemas:
        store.set_schema(kind, schemas[kind])
    return store


class Copies:
    """Several stores, and all letters that were ever sent between them."""

    def __init__(self, many, schemas):
        self.stores = [new_copy(schemas) for _ in range(many)]
        self.letters = []

    def tell(self, copy, line):
        """Tell a line to a copy and send it to the others; raise as a store does, and then send nothing."""
        self.stores[copy].tell(line)
        self.send(copy, ("line", line))

    def rule(self, copy, rule):
        """Tell a rule to a copy and send it to the others; raise as a store does, and then send nothing."""
        check_rule(rule)
        if rule[0] not in FORMS_OF_LETTERS:
            raise Refused()
        self.stores[copy].add_rule(rule)
        self.send(copy, ("rule", rule))

    def send(self, sender, letter):
        """Send a letter to every other copy."""
        for k in range(len(self.stores)):
            if k != sender:
                self.letters.append((sender, k, letter))

    def sent(self):
        """Return the list of all letters that were ever sent, each with its sender and its receiver."""
        return list(self.letters)

    def deliver(self, index):
        """Deliver a letter; return True if this changed its receiver; raise NotFound if there is no such letter."""
        if not 0 <= index < len(self.letters):
            raise NotFound()
        _, receiver, letter = self.letters[index]
        return self.receive(self.stores[receiver], letter)

    def receive(self, store, letter):
        """Do to a store what a letter tells; return True if this changed the store."""
        form, content = letter
        try:
            if form == "line":
                return store.tell(content)
            store.add_rule(content)
        except (Refused, Duplicate):
            return False
        return True

    def image(self, copy):
        """Return the image of a copy."""
        return pack_store(self.stores[copy])
