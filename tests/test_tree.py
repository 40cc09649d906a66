import random
import unittest

from wholecommits.log import formatted
from wholecommits.pages import Pages
from wholecommits.tree import all_spots, depth, first_from, is_sound, look, pages_of, put, take, walk
from tests.tree_rules import check_rules, shape_behind_put, shape_behind_take, shape_of

FIRST = ("a", -10 ** 18)
LAST = ("z" * 12, 10 ** 18)


def new_batch(blocks=600, ring=8):
    return Pages(formatted(blocks, ring)).batch()


def drawn_spot(draw):
    return draw.choice(["a", "aa", "ab", "b", "ba", "c", "z" * 12]), draw.choice([-10 ** 18, 10 ** 18, *range(-40, 40)])


class Model(unittest.TestCase):
    """A tree in a batch beside a plain dict of its spots."""

    def begin(self, batch):
        self.batch = batch
        self.marks = {}

    def triples(self):
        return [(*spot, self.marks[spot]) for spot in sorted(self.marks)]

    def put(self, spot, mark):
        shape = shape_behind_put(self.batch, spot)
        self.assertIsNone(put(self.batch, spot, mark))
        self.marks[spot] = mark
        self.check(shape)

    def take(self, spot):
        shape = shape_behind_take(self.batch, spot)
        self.assertIsNone(take(self.batch, spot))
        del self.marks[spot]
        self.check(shape)

    def check(self, shape):
        triples, pages, deep = check_rules(self.batch)
        self.assertEqual(shape_of(self.batch), shape)
        self.assertEqual(triples, self.triples())
        self.assertEqual(all_spots(self.batch), triples)
        self.assertEqual(pages_of(self.batch), pages)
        self.assertEqual(depth(self.batch), deep)
        self.assertLessEqual(4 ** max(deep - 1, 0), max(len(triples), 1))
        self.assertIs(is_sound(self.batch), True)
        self.check_pages_in_use(pages)

    def check_pages_in_use(self, pages):
        """Each page that the tree has not is a free one."""
        high = self.batch.get(0)[2]
        used = [page for page in range(1, high) if self.batch.get(page)[0] != "free"]
        self.assertEqual(tuple(used), pages)

    def check_bounds(self, bounds):
        spots = sorted(self.marks)
        for low in bounds:
            self.assertEqual(look(self.batch, low), (low in self.marks, self.marks.get(low)))
            behind = [spot for spot in spots if spot >= low]
            found = (*behind[0], self.marks[behind[0]]) if behind else None
            self.assertEqual(first_from(self.batch, low), found)
        for low in bounds[::3]:
            for high in bounds[::4]:
                expected = [(*spot, self.marks[spot]) for spot in spots if low <= spot < high]
                self.assertEqual(walk(self.batch, low, high), expected)


class Rows(Model):

    def test_the_empty_tree(self):
        self.begin(new_batch())
        self.check(None)
        self.assertEqual((depth(self.batch), pages_of(self.batch), all_spots(self.batch)), (0, (), []))
        self.check_bounds([FIRST, ("a", 0), LAST])
        self.put(("a", 1), None)
        self.assertEqual(self.batch.get(self.batch.root()), ("leaf", "a", 1, 0, 0))
        self.put(("a", 1), -5)
        self.assertEqual(self.batch.get(self.batch.root()), ("leaf", "a", 1, 1, -5))
        self.take(("a", 1))
        self.assertEqual((self.batch.root(), self.batch.get(0)[1], self.batch.get(1)[0]), (0, 1, "free"))

    def test_ascending_and_descending(self):
        spots = [(key, number) for key in ("a", "ab", "b", "zz") for number in range(-40, 40)]
        for puts in (spots, spots[::-1]):
            for takes in (spots, spots[::-1]):
                self.begin(new_batch())
                for at, spot in enumerate(puts):
                    self.put(spot, at)
                self.assertEqual(depth(self.batch), 4)
                for spot in takes:
                    self.take(spot)
                self.assertEqual(self.batch.root(), 0)

    def test_mixed(self):
        for seed in range(8):
            draw = random.Random(seed)
            self.begin(new_batch())
            for step in range(700):
                spot = drawn_spot(draw)
                if draw.random() < (0.8 if step < 400 else 0.4):
                    self.put(spot, draw.choice([None, 0, step, -10 ** 18, 10 ** 18]))
                elif self.marks:
                    self.take(draw.choice(sorted(self.marks)))
            while self.marks:
                self.take(draw.choice(sorted(self.marks)))
            self.assertEqual(self.batch.root(), 0)

    def test_shrinking_from_one_side_and_in_the_middle(self):
        spots = [("k", number) for number in range(200)]
        for keep in (0, 100, 199):
            self.begin(new_batch())
            for spot in random.Random(keep).sample(spots, 200):
                self.put(spot, 1)
            for spot in sorted(spots, key=lambda spot: abs(spot[1] - keep)):
                self.take(spot)
            self.assertEqual(self.batch.root(), 0)

    def test_bounds(self):
        for many in (1, 8, 9, 60, 300):
            self.begin(new_batch())
            draw = random.Random(many)
            spots = [("b", 3 * number) for number in range(-many // 2, many // 2 + 1)]
            for spot in draw.sample(spots, len(spots)):
                put(self.batch, spot, spot[1])
                self.marks[spot] = spot[1]
            near = [("b", number) for number in range(3 * (-many // 2) - 2, 3 * (many // 2) + 3)]
            if len(near) > 90:
                near = near[:20] + near[-20:] + draw.sample(near, 50)
            self.check_bounds([FIRST, ("a", 10 ** 18), ("az", 0), *near, ("b", 10 ** 18), ("ba", 0), LAST])

    def test_all_there_is_up_to_the_ends(self):
        self.begin(new_batch())
        for spot in (FIRST, LAST, ("a", 10 ** 18), ("z" * 12, -10 ** 18)):
            self.put(spot, None)
        self.assertEqual(walk(self.batch, FIRST, LAST), self.triples()[:-1])
        self.assertEqual(first_from(self.batch, LAST), (*LAST, None))
        self.assertEqual(walk(self.batch, LAST, FIRST), [])
        self.assertEqual(walk(self.batch, LAST, LAST), [])

    def test_beside_pages_that_are_none_of_the_tree(self):
        batch = new_batch()
        batch.put(batch.take_page(), ("x", 5))
        self.assertEqual((first_from(batch, FIRST), pages_of(batch), is_sound(batch)), (None, (), True))
        for number in range(60):
            put(batch, ("k", number), number)
            self.assertIsNone(first_from(batch, ("k", number + 1)))
            self.assertEqual(pages_of(batch), check_rules(batch)[1])
        self.assertEqual((batch.get(1), is_sound(batch)), (("x", 5), True))

    def test_what_is_returned_is_new(self):
        self.begin(new_batch())
        self.put(("a", 1), 5)
        all_spots(self.batch).clear()
        walk(self.batch, FIRST, LAST).clear()
        self.assertEqual(all_spots(self.batch), [("a", 1, 5)])
        self.assertEqual(look(self.batch, ("a", 1)), (True, 5))
        self.assertEqual(look(self.batch, ("a", 2)), (False, None))
        self.put(("a", 2), None)
        self.assertEqual(look(self.batch, ("a", 2)), (True, None))

    def test_it_lasts_through_batches_and_a_cut(self):
        disk = formatted(600, 60)
        pages = Pages(disk)
        draw = random.Random(5)
        marks = {}
        for number in range(40):
            self.begin(pages.batch())
            self.marks = dict(marks)
            for _ in range(draw.randrange(12)):
                if marks and draw.random() < 0.3:
                    self.take(draw.choice(sorted(self.marks)))
                else:
                    self.put(drawn_spot(draw), number)
            if draw.random() < 0.7:
                self.batch.done(("n", number))
                marks = self.marks
            if draw.random() < 0.2 and pages.notes():
                pages.force(pages.record())
                disk.cut()
                pages = Pages(disk)
            self.begin(pages.batch())
            self.marks = dict(marks)
            self.check(shape_of(self.batch))


if __name__ == "__main__":
    unittest.main()
