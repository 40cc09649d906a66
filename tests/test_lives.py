import random
import unittest

from wholecommits.clients import is_right_account, played
from wholecommits.errors import NoRoom, Stopped, TooLarge
from wholecommits.histories import history_text, read_history
from wholecommits.log import formatted
from wholecommits.parsing import program_text, read_program
from wholecommits.recovery import commits_of, meaning
from wholecommits.store import Store, new_store
from tests.lying_rules import dict_lying
from tests.play_rules import drawn_play
from tests.store_rules import KEYS, Beside, one_deed, put_all
from tests.test_store_power import KEYS as LIFE_KEYS, Life, state_of

GREAT_KEYS = [a + b + c for a in "abcdefg" for b in "abcdefg" for c in "abcdefg"]


class Lives(unittest.TestCase):

    def test_rings_that_go_round(self):
        for seed in range(6):
            draw = random.Random(seed)
            beside = Beside(self, new_store(80, 12), [{}], {})
            while beside.last() < 130:
                one_deed(draw, beside, 4, KEYS)
                if draw.random() < 0.2:
                    beside.compare()
            beside.compare()
            beside.checkpoint()
            beside.compare()
            self.assertGreater(beside.disk.lying(0)[3], 120)

    def test_rings_that_go_round_under_cuts(self):
        for seed in range(6):
            life = Life(self, seed, 80, 12)
            commits = 0
            while commits < 150:
                life.disk.power(life.draw.choice([None, 4, 20, 60]))
                ahead = len(life.dicts)
                life.calls(40)
                commits += len(life.dicts) - ahead
                life.disk.cut()
                life.opened()
            self.assertGreater(life.disk.lying(0)[3], 120)

    def test_one_opening_with_a_hundred_commits_and_power_for_some(self):
        for seed in range(3):
            whole = Life(self, seed, 80, 12)
            whole.calls(700)
            self.assertGreater(len(whole.dicts), 90)
            for power in range(0, whole.disk.reached(), 41):
                life = Life(self, seed, 80, 12)
                life.disk.power(power)
                life.calls(700)
                life.check_lying()
                life.disk.cut()
                life.opened()
                life.calls(5)

    def great_store(self, draw):
        """A store with two great commits, the second of which was not forced."""
        store = new_store(560, 130)
        put_all(store, {key: draw.randrange(99) for key in draw.sample(GREAT_KEYS, 220)})
        put_all(store, {key: draw.choice([None, draw.randrange(99)]) for key in draw.sample(GREAT_KEYS, 180)},
                soon=True)
        return store

    def test_great_commits_cut_behind_each_write(self):
        for call in ("force", "vacuum", "checkpoint", "commit", "opening"):
            whole = self.great_store(random.Random(1))
            start = whole.disk().reached()
            first, second = meaning(whole.disk()), whole.now()
            self.assertEqual(len(first), 220)
            self.great_call(whole, call)
            third = whole.now()
            many = whole.disk().reached() - start
            for power in range(0, many, 1 + many // 12):
                store = self.great_store(random.Random(1))
                disk = store.disk()
                disk.power(power)
                self.assertRaises(Stopped, self.great_call, store, call)
                self.assertIn(meaning(disk), (first, second))
                disk.cut()
                kept = dict_lying(disk)
                self.assertIn(kept, (first, second))
                again = Store(disk)
                self.assertEqual((again.now(), again.last()), (kept, 1 if kept == first else 2))
                self.assertEqual(put_all(again, {"a": 7}), again.last())
                self.assertEqual(meaning(disk), {**kept, "a": 7})
            whole.disk().cut()
            self.assertIn(meaning(whole.disk()), (second, third) if call != "vacuum" else (first, second))

    def great_call(self, store, call):
        if call == "commit":
            put_all(store, {key: 5 for key in GREAT_KEYS[:150]})
        elif call == "opening":
            Store(store.disk())
        elif call == "vacuum":
            store.vacuum()
            store.force()
        else:
            getattr(store, call)()

    def test_great_ones_that_can_not_be(self):
        for blocks, ring, error in ((560, 20, TooLarge), (150, 130, NoRoom)):
            store = new_store(blocks, ring)
            put_all(store, {key: 1 for key in GREAT_KEYS[:20]})
            number = store.begin()
            store.get(number, "a")
            for key in GREAT_KEYS:
                store.put(number, key, 2)
            before = (state_of(store), store.open_ones(), store.ties_of_now(), store.disk().waiting(),
                      [store.disk().read(block) for block in range(blocks)])
            for call in (store.commit, store.commit_soon):
                self.assertRaises(error, call, number)
                self.assertEqual((state_of(store), store.open_ones(), store.ties_of_now(), store.disk().waiting(),
                                  [store.disk().read(block) for block in range(blocks)]), before)
            for key in GREAT_KEYS[20:]:
                self.assertEqual(store.get(number, key), 2)
            store.abort(number)
            self.assertEqual(put_all(store, {key: 3 for key in GREAT_KEYS[:20]}), 2)
            self.assertEqual((store.vacuum(), store.now()), (20, {key: 3 for key in GREAT_KEYS[:20]}))

    def test_a_disk_that_runs_out_and_is_cleaned(self):
        store = new_store(40, 20)
        full = 0
        for worth in range(400):
            number = store.begin()
            for key in LIFE_KEYS[:6]:
                store.put(number, key, worth)
            try:
                store.commit_soon(number)
            except NoRoom:
                full += 1
                ahead = store.now()
                store.abort(number)
                self.assertEqual((store.now(), store.debt() > 0), (ahead, True))
                store.vacuum()
                self.assertEqual((store.now(), store.debt()), (ahead, 0))
                self.assertEqual(put_all(store, {key: worth for key in LIFE_KEYS[:6]}), store.last())
        self.assertGreater(full, 10)
        self.assertEqual((store.last(), store.now()), (400, {key: 399 for key in LIFE_KEYS[:6]}))
        store.disk().calm()
        store.disk().cut()
        self.assertEqual(Store(store.disk()).now(), {key: 399 for key in LIFE_KEYS[:6]})

    def test_a_second_store_over_a_long_life(self):
        """Opened while writes wait and pages are dirty, with power for each number of writes."""
        for seed in range(4):
            power = 0
            while True:
                life = Life(self, seed, 80, 12)
                life.calls(150)
                last = len(life.dicts) - 1
                life.disk.power(power)
                try:
                    second = Store(life.disk)
                    break
                except Stopped:
                    life.check_lying()
                    life.disk.cut()
                    life.opened()
                    power += 1
            self.assertEqual((second.now(), second.last(), second.lasting()), (life.dicts[-1], last, last))
            self.assertEqual(commits_of(life.disk), last)
            life.disk.power(None)
            self.assertEqual(state_of(Store(life.disk)), state_of(second))

    def test_the_great_fact_over_plays(self):
        """All that stands in an account is a history with a serial order, as texts tell it, too."""
        stand = 0
        for seed in range(300):
            draw = random.Random(seed)
            play = drawn_play(draw, draw.choice([100, 400]))
            programs = tuple(read_program(program_text(program)) for program in play[0])
            self.assertEqual(programs, play[0])
            account = played(60, 14, (programs, *play[1:]))
            self.assertIs(is_right_account(play, account), True)
            history = tuple(row[1] for row in account["commits"] if row[3])
            self.assertEqual(read_history(history_text(history)), history)
            stand += len(history)
        self.assertGreater(stand, 400)

    def test_openings_of_a_disk_that_was_never_closed(self):
        disk = formatted(64, 16)
        for number in range(1, 60):
            store = Store(disk)
            self.assertEqual((store.last(), store.begin()), (number - 1, 0))
            self.assertEqual(put_all(store, {"a": number, KEYS[number % 8]: -number}, soon=number % 3 > 0), number)
            if number % 5 == 0:
                store.vacuum()
        self.assertEqual((Store(disk).last(), disk.lying(0)[1]), (59, 60))


if __name__ == "__main__":
    unittest.main()
