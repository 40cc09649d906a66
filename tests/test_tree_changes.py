import unittest

from wholecommits.errors import NoMark, NoRoom, NoSpot, NotThere, Over
from wholecommits.log import formatted
from wholecommits.pages import Pages
from wholecommits.tree import all_spots, depth, first_from, is_sound, look, pages_of, put, take, walk
from tests.test_tree import new_batch
from tests.things import plain_mark, plain_spot, things
from tests.tree_rules import check_rules, shape_of


def leaf_of(numbers):
    items = ["leaf"]
    for number in numbers:
        items += ["k", number, 1, number]
    return tuple(items)


def inner_of(children, fences):
    items = ["inner", children[0]]
    for child, fence in zip(children[1:], fences):
        items += ["k", fence, child]
    return tuple(items)


def batch_of_leaves(*leaves):
    """A batch whose tree is a root, page 1, over leaves with these numbers, from page 2 on."""
    batch = new_batch(40)
    batch.set_root(batch.take_page())
    pages = [batch.take_page() for _ in leaves]
    for page, numbers in zip(pages, leaves):
        batch.put(page, leaf_of(numbers))
    batch.put(1, inner_of(pages, [numbers[0] for numbers in leaves[1:]]))
    check_rules(batch)
    return batch


def batch_of_three_levels(*sizes):
    """A batch whose tree is a root over inner pages of so many leaves of 4, numbered by tens."""
    batch = new_batch(200)
    batch.set_root(batch.take_page())
    number = 0
    tops = []
    starts = []
    for size in sizes:
        top = batch.take_page()
        children = []
        fences = []
        for _ in range(size):
            leaf = batch.take_page()
            batch.put(leaf, leaf_of(range(number, number + 40, 10)))
            children.append(leaf)
            fences.append(number)
            number += 40
        batch.put(top, inner_of(children, fences[1:]))
        tops.append(top)
        starts.append(fences[0])
    batch.put(1, inner_of(tops, starts[1:]))
    check_rules(batch)
    return batch


def numbers_of(batch):
    """The shape of a tree, its leaves as lists of the numbers of their spots."""
    def plain(shape):
        if isinstance(shape, list):
            return [number for _, number in shape]
        return tuple(plain(child) for child in shape)
    return plain(shape_of(batch))


class Changes(unittest.TestCase):

    def test_a_leaf_is_parted_into_its_first_four_and_the_others(self):
        batch = new_batch(40)
        for number in range(8):
            put(batch, ("k", number), number)
        self.assertEqual((depth(batch), len(pages_of(batch))), (1, 1))
        put(batch, ("k", 8), 8)
        self.assertEqual(numbers_of(batch), ([0, 1, 2, 3], [4, 5, 6, 7, 8]))
        self.assertEqual((depth(batch), len(pages_of(batch))), (2, 3))
        batch = new_batch(40)
        for number in range(8, -1, -1):
            put(batch, ("k", number), number)
        self.assertEqual(numbers_of(batch), ([0, 1, 2, 3], [4, 5, 6, 7, 8]))

    def test_a_mark_anew_parts_nothing(self):
        batch = new_batch(40)
        for number in range(8):
            put(batch, ("k", number), number)
        for number in range(8):
            put(batch, ("k", number), None)
        self.assertEqual((depth(batch), len(pages_of(batch))), (1, 1))
        self.assertEqual(all_spots(batch), [("k", number, None) for number in range(8)])

    def test_an_inner_page_is_parted_likewise(self):
        batch = batch_of_three_levels(4, 8)
        for number in range(161, 165):
            put(batch, ("k", number), 1)
        self.assertEqual([len(part) for part in numbers_of(batch)], [4, 8])
        put(batch, ("k", 165), 1)
        sizes = [len(part) for part in numbers_of(batch)]
        self.assertEqual(sizes, [4, 4, 5])
        check_rules(batch)

    def test_the_root_is_parted(self):
        batch = batch_of_leaves(*[range(at, at + 4) for at in range(0, 80, 10)])
        for number in range(74, 79):
            put(batch, ("k", number), 1)
        shape = numbers_of(batch)
        self.assertEqual([len(part) for part in shape], [4, 5])
        self.assertEqual((depth(batch), shape[1][3:]), (3, ([70, 71, 72, 73], [74, 75, 76, 77, 78])))
        check_rules(batch)

    def test_a_leaf_is_filled_up_from_the_left_first(self):
        batch = batch_of_leaves([0, 1, 2, 3, 4], [10, 11, 12, 13], [20, 21, 22, 23, 24, 25])
        take(batch, ("k", 12))
        self.assertEqual(numbers_of(batch), ([0, 1, 2, 3], [4, 10, 11, 13], [20, 21, 22, 23, 24, 25]))
        take(batch, ("k", 4))
        self.assertEqual(numbers_of(batch), ([0, 1, 2, 3], [10, 11, 13, 20], [21, 22, 23, 24, 25]))
        self.assertEqual(pages_of(batch), (1, 2, 3, 4))
        check_rules(batch)

    def test_leaves_are_joined_into_the_left_page(self):
        batch = batch_of_leaves([0, 1, 2, 3], [10, 11, 12, 13], [20, 21, 22, 23])
        take(batch, ("k", 10))
        self.assertEqual(numbers_of(batch), ([0, 1, 2, 3, 11, 12, 13], [20, 21, 22, 23]))
        self.assertEqual(batch.get(2), leaf_of([0, 1, 2, 3, 11, 12, 13]))
        self.assertEqual((pages_of(batch), batch.get(3)), ((1, 2, 4), ("free", -1)))
        batch = batch_of_leaves([0, 1, 2, 3], [10, 11, 12, 13], [20, 21, 22, 23])
        take(batch, ("k", 0))
        self.assertEqual(numbers_of(batch), ([1, 2, 3, 10, 11, 12, 13], [20, 21, 22, 23]))
        self.assertEqual((pages_of(batch), batch.get(2)), ((1, 2, 4), leaf_of([1, 2, 3, 10, 11, 12, 13])))

    def test_a_root_with_one_child_gives_way(self):
        for gone in (3, 10):
            batch = batch_of_leaves([0, 1, 2, 3], [10, 11, 12, 13])
            take(batch, ("k", gone))
            self.assertEqual((batch.root(), pages_of(batch), depth(batch)), (2, (2,), 1))
            self.assertEqual((batch.get(1)[0], batch.get(3)[0]), ("free", "free"))
            self.assertEqual(len(all_spots(batch)), 7)

    def test_the_neighbour_is_one_under_the_same_parent(self):
        batch = batch_of_three_levels(4, 4)
        for number in (121, 122):
            put(batch, ("k", number), 1)
        take(batch, ("k", 160))
        self.assertEqual([len(part) for part in numbers_of(batch)], [4, 4, 4, 6, 7, 4, 4])
        self.assertEqual(depth(batch), 2)
        check_rules(batch)

    def test_inner_pages_are_filled_up_by_one_child(self):
        batch = batch_of_three_levels(5, 4, 8)
        take(batch, ("k", 200))
        shape = numbers_of(batch)
        self.assertEqual([len(part) for part in shape], [4, 4, 8])
        self.assertEqual(shape[1][0], [160, 170, 180, 190])
        check_rules(batch)
        batch = batch_of_three_levels(4, 4, 8)
        take(batch, ("k", 160))
        shape = numbers_of(batch)
        self.assertEqual([len(part) for part in shape], [4, 4, 7])
        self.assertEqual(shape[1][3], [320, 330, 340, 350])
        self.assertEqual(len(shape[1][0]), 7)
        check_rules(batch)

    def test_inner_pages_are_joined(self):
        batch = batch_of_three_levels(4, 4, 4)
        left = batch.get(1)[1]
        take(batch, ("k", 160))
        self.assertEqual([len(part) for part in numbers_of(batch)], [7, 4])
        self.assertEqual(batch.get(1)[1], left)
        check_rules(batch)

    def test_the_last_spot_of_all(self):
        batch = new_batch()
        put(batch, ("a", 1), 1)
        page = batch.root()
        take(batch, ("a", 1))
        self.assertEqual((batch.root(), batch.get(page), depth(batch), is_sound(batch)), (0, ("free", -1), 0, True))


class Wrong(unittest.TestCase):

    def test_no_spot_and_no_mark(self):
        for batch in (new_batch(), batch_of_leaves([0, 1, 2, 3], [10, 11, 12, 13])):
            before = (all_spots(batch), batch.changed())
            for thing in things():
                if not plain_spot(thing):
                    self.assertRaises(NoSpot, look, batch, thing)
                    self.assertRaises(NoSpot, put, batch, thing, 1)
                    self.assertRaises(NoSpot, put, batch, thing, "no mark")
                    self.assertRaises(NoSpot, take, batch, thing)
                    self.assertRaises(NoSpot, first_from, batch, thing)
                    self.assertRaises(NoSpot, walk, batch, thing, ("a", 1))
                    self.assertRaises(NoSpot, walk, batch, ("a", 1), thing)
                    self.assertRaises(NoSpot, walk, batch, ("z", 1), thing)
                if not plain_mark(thing):
                    self.assertRaises(NoMark, put, batch, ("a", 1), thing)
                    self.assertRaises(NoMark, put, batch, ("k", 0), thing)
            self.assertEqual((all_spots(batch), batch.changed()), before)

    def test_spots_and_marks_at_their_ends(self):
        batch = new_batch()
        for spot in [("a", -10 ** 18), ("z" * 12, 10 ** 18)]:
            for mark in (None, -10 ** 18, 10 ** 18, 0):
                put(batch, spot, mark)
                self.assertEqual(look(batch, spot), (True, mark))

    def test_not_there(self):
        batch = new_batch()
        self.assertRaises(NotThere, take, batch, ("a", 1))
        for number in range(0, 100, 2):
            put(batch, ("k", number), 1)
        before = [batch.get(page) for page in range(batch.get(0)[2])]
        for spot in [("k", number) for number in range(-1, 102, 2)] + [("a", 2), ("ka", 2), ("zz", 2)]:
            self.assertRaises(NotThere, take, batch, spot)
        self.assertEqual([batch.get(page) for page in range(batch.get(0)[2])], before)

    def test_over_comes_behind_the_arguments(self):
        for end in (lambda batch: batch.done(()), lambda batch: batch.dropped()):
            batch = batch_of_leaves([0, 1, 2, 3], [10, 11, 12, 13])
            end(batch)
            spot = ("k", 0)
            for call in (lambda: look(batch, spot), lambda: put(batch, spot, 1), lambda: take(batch, spot),
                         lambda: first_from(batch, spot), lambda: walk(batch, spot, spot), lambda: all_spots(batch),
                         lambda: depth(batch), lambda: pages_of(batch), lambda: is_sound(batch)):
                self.assertRaises(Over, call)
            self.assertRaises(NoSpot, look, batch, ["k", 0])
            self.assertRaises(NoSpot, put, batch, ["k", 0], "x")
            self.assertRaises(NoMark, put, batch, spot, "x")
            self.assertRaises(NoSpot, take, batch, None)
            self.assertRaises(NoSpot, first_from, batch, None)
            self.assertRaises(NoSpot, walk, batch, spot, None)

    def test_a_batch_that_is_done_or_dropped(self):
        pages = Pages(formatted(40, 8))
        batch = pages.batch()
        put(batch, ("a", 1), 1)
        batch.done(())
        batch = pages.batch()
        put(batch, ("a", 2), 2)
        take(batch, ("a", 1))
        batch.dropped()
        batch = pages.batch()
        self.assertEqual(all_spots(batch), [("a", 1, 1)])
        put(batch, ("a", 2), 2)
        self.assertEqual(all_spots(pages.batch()), [("a", 1, 1)])

    def test_no_room_leaves_the_tree(self):
        for free in range(3):
            batch = batch_of_leaves(*[range(at, at + 4) for at in range(0, 80, 10)])
            for number in range(74, 78):
                put(batch, ("k", number), number)
            spots = all_spots(batch)
            kept = [batch.take_page() for _ in range(31 - 9 - 1)]
            for page in kept[:free]:
                batch.give_page(page)
            self.assertRaises(NoRoom, put, batch, ("k", 78), 1)
            self.assertRaises(NoSpot, put, batch, None, 1)
            self.assertRaises(NoMark, put, batch, ("k", 78), "a")
            self.assertEqual((all_spots(batch), is_sound(batch)), (spots, True))
            self.assertEqual(sorted([batch.take_page() for _ in range(free)]), kept[:free])
            put(batch, ("k", 77), 5)
            put(batch, ("k", 4), 4)
            self.assertEqual(len(all_spots(batch)), len(spots) + 1)

    def test_no_room_exactly(self):
        batch = batch_of_leaves(*[range(at, at + 4) for at in range(0, 80, 10)])
        for number in range(74, 78):
            put(batch, ("k", number), number)
        kept = [batch.take_page() for _ in range(31 - 9 - 1)]
        for page in kept[:3]:
            batch.give_page(page)
        put(batch, ("k", 78), 78)
        self.assertEqual((depth(batch), is_sound(batch)), (3, True))
        self.assertRaises(NoRoom, batch.take_page)

    def test_no_room_for_the_first_spot(self):
        pages = Pages(formatted(16, 4))
        batch = pages.batch()
        for _ in range(10):
            batch.take_page()
        self.assertRaises(NoRoom, put, batch, ("a", 1), 1)
        self.assertEqual((batch.root(), all_spots(batch)), (0, []))
        batch.dropped()
        self.assertEqual((pages.high(), pages.record()), (1, -1))

    def test_a_disk_is_filled_until_there_is_no_room(self):
        pages = Pages(formatted(16, 4))
        batch = pages.batch()
        spots = []
        with self.assertRaises(NoRoom):
            for number in range(100):
                put(batch, ("a", number), number)
                spots.append(("a", number, number))
        self.assertEqual((all_spots(batch), is_sound(batch)), (spots, True))
        self.assertEqual(check_rules(batch)[0], spots)
        batch.dropped()
        self.assertEqual(all_spots(pages.batch()), [])


if __name__ == "__main__":
    unittest.main()
