import random
import unittest

from wholecommits.log import formatted
from wholecommits.pages import Pages
from wholecommits.tree import depth, is_sound, pages_of, put
from tests.test_tree import new_batch
from tests.test_tree_changes import batch_of_leaves, batch_of_three_levels, inner_of, leaf_of
from tests.things import things
from tests.tree_rules import check_rules

FOURS = ([0, 1, 2, 3], [10, 11, 12, 13], [20, 21, 22, 23])


def rules_hold(batch):
    """Whether the rules hold by the check of the tests, which may fall over what is spoiled."""
    try:
        check_rules(batch)
    except (AssertionError, ValueError, TypeError, IndexError, RecursionError):
        return False
    return True


class Sound(unittest.TestCase):

    def spoiled(self, batch, page, items):
        """Assert that a sound tree is not, when a page has other items."""
        self.assertIs(is_sound(batch), True)
        kept = batch.get(page)
        batch.put(page, items)
        self.assertIs(is_sound(batch), False, items)
        self.assertFalse(rules_hold(batch))
        depth(batch)
        pages_of(batch)
        batch.put(page, kept)
        self.assertIs(is_sound(batch), True)

    def test_sound_ones(self):
        self.assertIs(is_sound(new_batch()), True)
        for sizes in ((4, 4), (8, 8), (4, 5, 6, 7, 8), (8,) * 8):
            batch = batch_of_three_levels(*sizes)
            self.assertIs(is_sound(batch), True)
            self.assertEqual((depth(batch), len(pages_of(batch))), (3, 1 + len(sizes) + sum(sizes)))
        self.assertIs(is_sound(batch_of_leaves(*FOURS)), True)
        self.assertIs(is_sound(batch_of_leaves(range(8), range(10, 18))), True)

    def test_other_fences_may_be_sound(self):
        batch = batch_of_leaves(*FOURS)
        for fences, sound in (((4, 14), True), ((10, 20), True), ((7, 15), True), ((3, 20), False), ((11, 20), False),
                              ((10, 13), False), ((10, 21), False), ((20, 10), False), ((10, 10), False)):
            batch.put(1, inner_of([2, 3, 4], fences))
            self.assertIs(is_sound(batch), sound)
            self.assertEqual(rules_hold(batch), sound)

    def test_the_root_leaf(self):
        batch = new_batch(40)
        page = batch.take_page()
        batch.set_root(page)
        self.assertIs(is_sound(batch), False)
        for many in range(0, 10):
            numbers = list(range(many))
            batch.put(page, ("leaf",) if many == 0 else leaf_of(numbers[:9]))
            self.assertIs(is_sound(batch), 1 <= many <= 8)

    def test_too_few_and_too_many(self):
        batch = batch_of_leaves(*FOURS)
        self.spoiled(batch, 2, leaf_of([0, 1, 2]))
        self.spoiled(batch, 3, leaf_of([10, 11, 12]))
        self.spoiled(batch, 4, ("leaf",))
        self.spoiled(batch, 4, leaf_of(range(20, 29)))
        self.spoiled(batch, 1, inner_of([2], []))
        self.spoiled(batch, 1, ("inner",))
        batch = batch_of_three_levels(4, 4)
        left = batch.get(1)[1]
        children = batch.get(left)[1::3]
        self.spoiled(batch, left, inner_of(children[:3], [40, 80]))
        batch = batch_of_leaves(*[range(at, at + 4) for at in range(0, 80, 10)])
        extra = batch.take_page()
        batch.put(extra, leaf_of(range(80, 84)))
        self.spoiled(batch, 1, inner_of([*range(2, 10), extra], range(10, 90, 10)))

    def test_leaves_that_are_none(self):
        batch = batch_of_leaves(*FOURS)
        for items in [("leaf", 5), ("leaf", "k"), leaf_of([10, 11, 12]) + ("k", 13, 1),
                      leaf_of([10, 11, 12, 13]) + (1,), leaf_of([10, 11, 13, 12]),
                      leaf_of([10, 11, 12, 12]), leaf_of([10, 12, 11, 13]),
                      leaf_of([10, 11, 12]) + ("k", 13, 0, 5), leaf_of([10, 11, 12]) + ("k", 13, 2, 0),
                      leaf_of([10, 11, 12]) + ("k", 13, -1, 0), leaf_of([10, 11, 12]) + ("k", 13, 1, "a"),
                      leaf_of([10, 11, 12]) + ("k", 13, 0, ""), leaf_of([10, 11, 12]) + ("k", 13, "", 0),
                      leaf_of([10, 11, 12]) + ("k", 13, 1, 10 ** 18 + 1), leaf_of([10, 11, 12]) + ("k", "a", 1, 0),
                      leaf_of([10, 11, 12]) + (5, 13, 1, 0), leaf_of([10, 11, 12]) + ("", 13, 1, 0),
                      leaf_of([10, 11, 12]) + ("k", 10 ** 18 + 1, 1, 0), ("leaves",) + leaf_of([10, 11, 12, 13])[1:],
                      ("new",), ("",), ("inner",) + leaf_of([10, 11, 12, 13])[1:]]:
            self.spoiled(batch, 3, items)

    def test_inner_pages_that_are_none(self):
        batch = batch_of_leaves(*FOURS)
        good = inner_of([2, 3, 4], [10, 20])
        for items in [good[:-1], good[:-2], good + (5,), good + ("k",), ("inner", 2, "k", 10, 3, "k", 20, "a"),
                      ("inner", "", "k", 10, 3, "k", 20, 4), ("inner", 2, 10, "k", 3, "k", 20, 4),
                      ("inner", 2, "", 10, 3, "k", 20, 4), ("inner", 2, "k", "x", 3, "k", 20, 4), ("new",)]:
            self.spoiled(batch, 1, items)
        batch = batch_of_leaves([0, 1, 2, 3], [10 ** 18 - 3, 10 ** 18 - 2, 10 ** 18 - 1, 10 ** 18])
        self.spoiled(batch, 1, ("inner", 2, "k", 10 ** 18 + 1, 3))
        self.spoiled(batch, 1, ("inner", 3, "k", 10 ** 18 + 1, 2))

    def test_children_that_are_none(self):
        batch = batch_of_leaves(*FOURS)
        for child in (0, 1, 2, 4, -1, 5, 6, 600, 10 ** 30, "a", "leaf", ""):
            self.spoiled(batch, 1, inner_of([2, child, 4], [10, 20]))
        free = batch.take_page()
        batch.give_page(free)
        self.spoiled(batch, 1, inner_of([2, free, 4], [10, 20]))
        new = batch.take_page()
        self.spoiled(batch, 1, inner_of([2, new, 4], [10, 20]))
        self.spoiled(batch, 1, inner_of([3, 2, 4], [10, 20]))

    def test_roots_that_are_none(self):
        batch = batch_of_leaves(*FOURS)
        new = batch.take_page()
        free = batch.take_page()
        batch.give_page(free)
        for root, pages in ((new, ()), (free, ())):
            batch.set_root(root)
            self.assertIs(is_sound(batch), False)
            self.assertEqual((depth(batch), pages_of(batch)), (0, pages))
        batch.set_root(2)
        self.assertEqual((is_sound(batch), depth(batch), pages_of(batch)), (True, 1, (2,)))
        batch.set_root(0)
        self.assertEqual((is_sound(batch), depth(batch), pages_of(batch)), (True, 0, ()))

    def test_unlike_depths(self):
        batch = batch_of_three_levels(4, 4)
        left = batch.get(1)[1]
        children = batch.get(left)[1::3]
        self.spoiled(batch, 1, inner_of([*children, *batch.get(1)[4:5]], [40, 80, 120, 160]))
        self.spoiled(batch, 1, inner_of([children[0], *batch.get(1)[4:5]], [160]))
        self.spoiled(batch, 1, inner_of([left, batch.get(batch.get(1)[4])[1]], [160]))

    def test_spots_beyond_the_fences_further_up(self):
        batch = batch_of_three_levels(4, 4)
        left, right = batch.get(1)[1::3]
        last = batch.get(left)[-1]
        first = batch.get(right)[1]
        self.spoiled(batch, last, leaf_of([120, 130, 140, 165]))
        self.spoiled(batch, first, leaf_of([155, 160, 170, 180]))
        children = batch.get(left)[1::3]
        self.spoiled(batch, left, inner_of(children, [40, 80, 170]))

    def test_rings_of_pages_end(self):
        batch = batch_of_three_levels(4, 4)
        left, right = batch.get(1)[1::3]
        children = batch.get(left)[1::3]
        self.spoiled(batch, left, inner_of([1, *children[1:]], [40, 80, 120]))
        self.spoiled(batch, left, inner_of([left] * 4, [40, 80, 120]))
        self.spoiled(batch, right, inner_of([left] * 4, [200, 240, 280]))
        batch.put(left, inner_of([left] * 4, [40, 80, 120]))
        self.assertEqual(pages_of(batch), tuple(sorted({1, left, right, *batch.get(right)[1::3]})))
        batch = new_batch(600)
        pages = [batch.take_page() for _ in range(500)]
        for page, child in zip(pages, pages[1:]):
            batch.put(page, ("inner", child))
        batch.put(pages[-1], leaf_of([1, 2, 3, 4]))
        batch.set_root(pages[0])
        self.assertIs(is_sound(batch), False)
        self.assertEqual((depth(batch), len(pages_of(batch))), (500, 500))

    def test_drawn_spoiling(self):
        sound = 0
        for seed in range(600):
            draw = random.Random(seed)
            batch = batch_of_three_levels(4, 5)
            page = draw.choice(pages_of(batch))
            items = list(batch.get(page))
            at = draw.randrange(1, len(items))
            items[at] = draw.choice([items[at], 0, 1, 5, 45, 125, 160, "k", "", "ka", -1, 10 ** 18 + 1])
            batch.put(page, tuple(items))
            self.assertEqual(is_sound(batch), rules_hold(batch), (seed, items))
            sound += is_sound(batch)
        self.assertGreater(sound, 30)
        self.assertLess(sound, 570)

    def test_what_is_no_batch(self):
        for thing in things():
            if type(thing).__name__ != "Batch":
                self.assertIs(is_sound(thing), False)

    def test_of_a_tree_that_was_put(self):
        batch = Pages(formatted(600, 8)).batch()
        for number in range(400):
            put(batch, ("k", number * 7 % 400), number)
            self.assertIs(is_sound(batch), True)


if __name__ == "__main__":
    unittest.main()
