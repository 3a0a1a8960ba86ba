"""Points 69 to 71: disks that are written step by step, and vaults that fall."""

import unittest

from shedbook.disks import Disk, Vault
from shedbook.errors import UnknownKind
from shedbook.images import pack_store
from shedbook.store import Store
from tests.helpers import check_unshared, raises, seeded
from tests.keeping import PlainStore, outcome, random_call, state
from tests.stores import LINE, OTHER, VISIT, aged, new_store

TEXTS = ([], [7], [1, 2, 3], [9, 9, 255, 0, 8], [0] * 7)


def settling(disk):
    """Settle a plain disk, given as [area 0, area 1, root], and yield after each step."""
    while disk[0]:
        disk[0].pop()
        yield
    for byte in list(disk[1]):
        disk[0].append(byte)
        yield
    disk[2] = 0
    yield


def writing(disk, data):
    """Write to a plain disk, and yield after each step."""
    if disk[2] == 1:
        yield from settling(disk)
    while disk[1]:
        disk[1].pop()
        yield
    for byte in data:
        disk[1].append(byte)
        yield
    disk[2] = 1
    yield
    yield from settling(disk)
    while disk[1]:
        disk[1].pop()
        yield


def plain_write(disk, data, limit=None):
    """Do at most as many steps of a writing; return how many were done and whether all were."""
    many = many_steps(disk, data)
    done = many if limit is None else min(limit, many)
    steps = writing(disk, data)
    for _ in range(done):
        next(steps)
    return done, done == many


def shown(disk):
    return [disk.area(0), disk.area(1), disk.root()]


def copied(disk):
    return [list(disk[0]), list(disk[1]), disk[2]]


def with_cuts(*writings):
    """Return a disk and a plain disk after writings, each a pair of bytes and a limit."""
    disk, plain = Disk(), [[], [], 0]
    for data, limit in writings:
        disk.write(data, limit)
        plain_write(plain, data, limit)
    return disk, plain


def many_steps(plain, data):
    return len(list(writing(copied(plain), data)))


class Disks(unittest.TestCase):
    def test_new(self):
        disk = Disk()
        self.assertEqual(shown(disk), [[], [], 0])
        self.assertEqual(disk.steps([]), 2)
        self.assertEqual(disk.steps([5, 6, 7]), 11)
        self.assertEqual(shown(disk), [[], [], 0])

    def test_write(self):
        disk = Disk()
        for data in TEXTS + TEXTS[::-1]:
            self.assertIs(disk.write(data), True)
            self.assertEqual(shown(disk), [data, [], 0])

    def test_steps_of_whole_writings(self):
        """The root turns twice, the new bytes are appended twice and taken away once, the old ones once."""
        disk = Disk()
        for data, wanted in (([1, 2, 3], 11), ([], 5), ([], 2), ([4], 5), ([4, 5], 9), ([4], 7)):
            self.assertEqual(disk.steps(data), wanted)
            disk.write(data)

    def test_first_steps(self):
        data = [5, 6]
        wanted = [[[], [], 0], [[], [5], 0], [[], [5, 6], 0], [[], [5, 6], 1], [[5], [5, 6], 1], [[5, 6], [5, 6], 1],
                  [[5, 6], [5, 6], 0], [[5, 6], [5], 0], [[5, 6], [], 0]]
        for limit in range(len(wanted)):
            disk = Disk()
            self.assertIs(disk.write(data, limit), limit == 8)
            self.assertEqual(shown(disk), wanted[limit])

    def test_a_second_writing_step_by_step(self):
        wanted = [[[1, 2], [], 0], [[1, 2], [9], 0], [[1, 2], [9], 1], [[1], [9], 1], [[], [9], 1], [[9], [9], 1],
                  [[9], [9], 0], [[9], [], 0]]
        for limit in range(len(wanted)):
            disk = Disk()
            disk.write([1, 2])
            self.assertEqual(disk.steps([9]), 7)
            self.assertIs(disk.write([9], limit), limit == 7)
            self.assertEqual(shown(disk), wanted[limit])

    def test_limits(self):
        for data in TEXTS:
            many = Disk().steps(data)
            for limit in (0, 1, many - 1, many, many + 1, many + 1000):
                disk, plain = Disk(), [[], [], 0]
                self.assertIs(disk.write(data, limit), limit >= many)
                self.assertEqual(plain_write(plain, data, limit)[1], limit >= many)
                self.assertEqual(shown(disk), plain)

    def test_every_cut_of_two_writings(self):
        for first in TEXTS:
            for second in TEXTS:
                for early in range(Disk().steps(first) + 1):
                    disk, plain = with_cuts((first, early))
                    many = disk.steps(second)
                    self.assertEqual(many, many_steps(plain, second))
                    self.assertEqual(shown(disk), plain)
                    for late in range(many + 2):
                        disk, plain = with_cuts((first, early))
                        done = disk.write(second, late)
                        self.assertIs(done, late >= many)
                        self.assertEqual((min(late, many), done), plain_write(plain, second, late))
                        self.assertEqual(shown(disk), plain)

    def test_three_writings(self):
        rng = seeded(69)
        for _ in range(500):
            disk, plain = Disk(), [[], [], 0]
            for _ in range(rng.randint(2, 5)):
                data = [rng.randint(0, 255) for _ in range(rng.randint(0, 5))]
                many = disk.steps(data)
                limit = rng.choice([None, rng.randint(0, many + 1), rng.randint(0, many)])
                self.assertEqual((many, disk.write(data, limit)),
                                 (many_steps(plain, data), plain_write(plain, data, limit)[1]))
                self.assertEqual(shown(disk), plain)

    def test_a_longer_list(self):
        data = [k * 7 & 255 for k in range(50000)]
        disk = Disk()
        self.assertEqual(disk.steps(data), 150002)
        self.assertIs(disk.write(data, 150001), False)
        self.assertEqual(shown(disk), [data, data[:1], 0])
        self.assertIs(disk.write(data, 0), False)
        self.assertIs(disk.write(data[::-1]), True)
        self.assertEqual(shown(disk), [data[::-1], [], 0])

    def test_nothing_is_shared(self):
        disk = Disk()
        data = [1, 2, 3]
        disk.write(data, 5)
        data.clear()
        self.assertEqual(shown(disk), [[1], [1, 2, 3], 1])
        for find in (lambda: disk.area(0), lambda: disk.area(1)):
            check_unshared(self, find)
        data = [8]
        disk.write(data)
        data.append(9)
        self.assertEqual(shown(disk), [[8], [], 0])
        check_unshared(self, disk.recover)
        self.assertEqual(Disk().area(0), [])


class Recovering(unittest.TestCase):
    def test_new(self):
        disk = Disk()
        self.assertEqual(disk.recover(), [])
        self.assertEqual(shown(disk), [[], [], 0])

    def test_root_0(self):
        disk, _ = with_cuts(([1, 2], None), ([3, 4, 5], 2))
        self.assertEqual(shown(disk), [[1, 2], [3, 4], 0])
        self.assertEqual(disk.recover(), [1, 2])
        self.assertEqual(shown(disk), [[1, 2], [], 0])

    def test_root_1(self):
        disk, _ = with_cuts(([1, 2], None), ([3, 4, 5], 5))
        self.assertEqual(shown(disk), [[1], [3, 4, 5], 1])
        self.assertEqual(disk.recover(), [3, 4, 5])
        self.assertEqual(shown(disk), [[3, 4, 5], [], 0])

    def test_every_cut(self):
        """What is left is the latest writing whose root step was done, also after a cut without recovering."""
        for first in TEXTS:
            for second in TEXTS:
                for early in range(Disk().steps(first) + 1):
                    held = first if early > len(first) else []
                    disk, plain = with_cuts((first, early))
                    many = disk.steps(second)
                    before = (len(disk.area(0)) + len(disk.area(1)) + 1 if disk.root() == 1 else 0) + len(disk.area(1))
                    for late in range(many + 1):
                        disk, _ = with_cuts((first, early), (second, late))
                        wanted = second if late > before + len(second) else held
                        self.assertEqual(disk.recover(), wanted)
                        self.assertEqual(shown(disk), [wanted, [], 0])
                        self.assertEqual(disk.recover(), wanted)
                        self.assertEqual(shown(disk), [wanted, [], 0])

    def test_many_writings(self):
        rng = seeded(70)
        for _ in range(500):
            disk, plain, held = Disk(), [[], [], 0], []
            for k in range(rng.randint(1, 5)):
                data = [k] * rng.randint(0, 4)
                limit = rng.randint(0, disk.steps(data))
                disk.write(data, limit)
                steps, root = writing(plain, data), plain[2]
                for _ in range(limit):
                    next(steps)
                    if (root, plain[2]) == (0, 1):
                        held = data
                    root = plain[2]
                self.assertEqual(shown(disk), plain)
                if rng.random() < 0.3:
                    self.assertEqual(disk.recover(), held)
                    plain = [list(held), [], 0]
                    self.assertEqual(shown(disk), plain)
            self.assertEqual(disk.recover(), held)
            self.assertEqual(shown(disk), [held, [], 0])


class Vaults(unittest.TestCase):
    def filled(self):
        vault = Vault()
        store = vault.store()
        store.set_schema("visit", VISIT)
        store.tell(LINE)
        return vault

    def test_new(self):
        vault = Vault()
        self.assertEqual(state(vault.store()), state(Store()))
        self.assertEqual(shown(vault.disk()), [[], [], 0])

    def test_store_and_disk_are_the_objects_themselves(self):
        vault = Vault()
        self.assertIs(vault.store(), vault.store())
        self.assertIs(vault.disk(), vault.disk())
        self.assertIs(vault.store().__class__, Store)
        self.assertIs(vault.disk().__class__, Disk)
        vault.store().set_schema("visit", VISIT)
        self.assertEqual(vault.store().kinds(), ["visit"])
        self.assertEqual(Vault().store().kinds(), [])

    def test_never_saved(self):
        vault = self.filled()
        store = vault.store()
        self.assertIsNone(vault.fall())
        self.assertIsNot(vault.store(), store)
        self.assertEqual(state(vault.store()), state(Store()))
        self.assertTrue(raises(UnknownKind, vault.store().tell, LINE))

    def test_saved(self):
        vault = self.filled()
        image, store, disk = pack_store(vault.store()), vault.store(), vault.disk()
        self.assertIs(vault.save(), True)
        self.assertEqual(shown(vault.disk()), [image, [], 0])
        self.assertIs(vault.store(), store)
        vault.fall()
        self.assertIsNot(vault.store(), store)
        self.assertIs(vault.disk(), disk)
        self.assertEqual(pack_store(vault.store()), image)
        again = vault.store()
        vault.fall()
        self.assertIsNot(vault.store(), again)
        self.assertEqual(pack_store(vault.store()), image)

    def test_an_empty_store_is_saved(self):
        vault = Vault()
        vault.save()
        self.assertEqual(vault.disk().area(0), [0] * 7)
        vault.fall()
        self.assertEqual(state(vault.store()), state(Store()))

    def test_every_cut(self):
        for earlier in (False, True):
            many, size = None, None
            limit = 0
            while many is None or limit <= many:
                vault = self.filled()
                before = pack_store(Store())
                if earlier:
                    vault.save()
                    before = pack_store(vault.store())
                vault.store().tell(OTHER)
                after = pack_store(vault.store())
                many, size = vault.disk().steps(after), len(after)
                self.assertIs(vault.save(limit), limit == many)
                vault.fall()
                self.assertEqual(pack_store(vault.store()), after if limit > size else before)
                limit += 1
            self.assertEqual(limit, many + 1)

    def test_changes_behind_a_saving_are_lost(self):
        vault = self.filled()
        vault.save()
        image = pack_store(vault.store())
        for call in (lambda store: store.tell(OTHER), lambda store: store.advance(9),
                     lambda store: store.add_rule(("keep", "visit", 3)), lambda store: store.set_schema("sale", []),
                     lambda store: store.watch("w", "of visit\nrows age"), lambda store: store.backup("b")):
            call(vault.store())
            self.assertNotEqual(pack_store(vault.store()), image)
            vault.fall()
            self.assertEqual(pack_store(vault.store()), image)

    def test_several_savings(self):
        vault = self.filled()
        images = []
        for age in (1, 2, 3):
            vault.store().tell(aged(age, 7))
            vault.save()
            images.append(pack_store(vault.store()))
        vault.fall()
        self.assertEqual(pack_store(vault.store()), images[-1])
        vault.store().tell(aged(4, 7))
        vault.save(5)
        vault.store().tell(aged(5, 7))
        vault.save()
        vault.store().tell(aged(6, 7))
        vault.save(3)
        vault.fall()
        self.assertEqual(vault.store().lines(), [LINE] + [aged(age, 7) for age in (1, 2, 3, 4, 5)])

    def test_all_parts_and_no_news(self):
        vault = Vault()
        source = new_store([("sum", "visit", "age", 10), ("keep", "visit", 10), ("hold", "bo", 90)], [LINE, OTHER], 5)
        store = vault.store()
        for kind in source.kinds():
            store.set_schema(kind, source.schema(kind))
        for rule in source.rules():
            store.add_rule(rule)
        store.tell(LINE)
        store.backup("b")
        store.watch("w", "of visit\nrows age")
        store.advance(40)
        store.tell(OTHER)
        self.assertEqual(store.news(), [("w", [(12,)], [])])
        shown_before = state(store)
        vault.save()
        self.assertEqual(state(store), shown_before)
        vault.fall()
        self.assertEqual(state(vault.store()), shown_before[:6] + ([],) + shown_before[7:])
        vault.store().add_rule(("forget", "bo", 99))
        vault.store().drop_rule(("hold", "bo", 90))
        self.assertEqual(vault.store().news(), [("w", [], [(12,)])])

    def test_random(self):
        """A fall brings back the state of the latest saving that was safe."""
        rng = seeded(71)
        seen = [0, 0]
        for _ in range(25):
            vault, plain, safe = Vault(), PlainStore(), pack_store(Store())
            for _ in range(30):
                name, given, _ = random_call(rng, plain)
                outcome(getattr(vault.store(), name), *given)
                if rng.random() < 0.3:
                    image, disk = pack_store(vault.store()), vault.disk()
                    before = len(disk.area(1)) + (len(disk.area(0)) + len(disk.area(1)) + 1 if disk.root() == 1 else 0)
                    limit = rng.randint(0, disk.steps(image))
                    vault.save(limit)
                    turned = limit > before + len(image)
                    seen[turned] += 1
                    safe = image if turned else safe
                if rng.random() < 0.2:
                    vault.fall()
                    self.assertEqual(pack_store(vault.store()), safe)
                    self.assertEqual(vault.store().news(), [])
        self.assertGreater(min(seen), 30)


if __name__ == "__main__":
    unittest.main()
