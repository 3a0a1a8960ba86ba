"""Disks that are written step by step, and vaults: stores that are saved on a disk (points 69 to 71)."""

from shedbook.images import pack_store, unpack_store
from shedbook.store import Store


class Steps:
    """How many steps may still be done."""

    def __init__(self, limit):
        self.left = limit

    def spend(self, wanted):
        """Return how many of the wanted steps may be done; they count as done."""
        done = min(wanted, self.left)
        self.left -= done
        return done


class Disk:
    """Two areas of bytes, and the root, which tells which of them holds."""

    def __init__(self):
        self.areas = [[], []]
        self.holding = 0

    def area(self, k):
        """Return the bytes of an area."""
        return list(self.areas[k])

    def root(self):
        """Return the root."""
        return self.holding

    def steps(self, data):
        """Return how many steps the writing of the data has at present."""
        first, second = len(self.areas[0]), len(self.areas[1])
        before = 0
        if self.holding == 1:
            before = first + second + 1
            first = second
        many = len(data)
        return before + second + many + 1 + first + many + 1 + many

    def write(self, data, limit=None):
        """Do the steps of the writing, at most as many as the limit; return True if all were done."""
        wanted = self.steps(data)
        allowed = wanted if limit is None else limit
        steps = Steps(allowed)
        if self.holding == 1:
            self.settle(steps)
        self.shrink(1, steps)
        self.grow(1, data, steps)
        self.turn(1, steps)
        self.settle(steps)
        self.shrink(1, steps)
        return allowed >= wanted

    def settle(self, steps):
        """Make area 0 like area 1, and let it hold."""
        self.shrink(0, steps)
        self.grow(0, self.areas[1], steps)
        self.turn(0, steps)

    def shrink(self, k, steps):
        """Take the bytes of an area away, one in each step, from the end."""
        many = len(self.areas[k])
        self.areas[k] = self.areas[k][:many - steps.spend(many)]

    def grow(self, k, data, steps):
        """Append bytes to an area, one in each step."""
        self.areas[k] = self.areas[k] + data[:steps.spend(len(data))]

    def turn(self, root, steps):
        """Set the root, in one step."""
        if steps.spend(1) == 1:
            self.holding = root

    def recover(self):
        """Make the disk whole; return the bytes of area 0."""
        if self.holding == 1:
            self.areas[0] = self.area(1)
            self.holding = 0
        self.areas[1] = []
        return self.area(0)


class Vault:
    """A store with a disk to which it is saved."""

    def __init__(self):
        self.told = Store()
        self.medium = Disk()

    def store(self):
        """Return the store itself."""
        return self.told

    def disk(self):
        """Return the disk itself."""
        return self.medium

    def save(self, limit=None):
        """Write the image of the store to the disk; return True if all steps were done."""
        return self.medium.write(pack_store(self.told), limit)

    def fall(self):
        """Lose the store, and take the one that the disk holds, or a new one."""
        data = self.medium.recover()
        self.told = unpack_store(data) if len(data) > 0 else Store()
