import unittest

from cases import LONG, SoonCase, own_shared, part_of, row, value_of
from keelbond.paper import is_sharing
from keelbond.ship import Ship

BOTH = (0, 1)


def ship_out(worth=100):
    ship = Ship()
    ship.go_out(worth)
    return ship


def dues(ship):
    return {number: due for number, word, moment, due, touched in ship.claims()}


class Voyages(unittest.TestCase):
    def test_one_that_was_never_out(self):
        ship = Ship()
        self.assertEqual((ship.away, ship.today, ship.voyage, ship.claims(), ship.landed), (False, 0, 0, [], []))

    def test_going_out(self):
        ship = ship_out(70)
        self.assertEqual((ship.away, ship.today, ship.voyage, ship.claims()), (True, 0, 1, []))
        self.assertEqual(ship.funds, [70, 0, 0, 0, 0, 0])

    def test_the_day_goes_on_over_all_voyages(self):
        ship = ship_out()
        ship.sail(5)
        ship.sail(7)
        self.assertEqual(ship.today, 12)
        ship.land()
        self.assertEqual((ship.away, ship.today, ship.voyage), (False, 12, 1))
        ship.go_out(9)
        ship.sail(1)
        self.assertEqual((ship.away, ship.today, ship.voyage), (True, 13, 2))

    def test_funds_of_the_next_voyage_are_its_own(self):
        ship = ship_out(70)
        ship.load(3, 40, 8)
        ship.lose(0, 5)
        ship.land()
        ship.go_out(11)
        self.assertEqual((ship.funds, ship.lots), ([11, 0, 0, 0, 0, 0], []))


class Funds(unittest.TestCase):
    def test_lots_and_freights(self):
        ship = ship_out(70)
        ship.load(2, 40, 8)
        ship.load(5, 10, 0)
        ship.load(3, 6, 5)
        self.assertEqual((ship.funds, ship.lots), ([70, 13, 40, 6, 0, 10], [2, 5, 3]))

    def test_losses(self):
        ship = ship_out(70)
        ship.load(2, 40, 8)
        ship.lose(0, 1)
        ship.lose(1, 8)
        ship.lose(2, 15)
        ship.lose(2, 5)
        self.assertEqual(ship.funds, [69, 0, 20, 0, 0, 0])
        self.assertEqual(ship.lots, [2])


class Claims(unittest.TestCase):
    def test_wages_over_days(self):
        ship = ship_out()
        ship.hire(3)
        self.assertEqual(ship.claims(), [(1, "wage", 0, (0, 1), BOTH)])
        ship.sail(4)
        ship.hire(5)
        ship.sail(10)
        self.assertEqual(ship.claims(), [(1, "wage", 0, (42, 1), BOTH), (2, "wage", 4, (50, 1), BOTH)])
        ship.dismiss(1)
        self.assertEqual(dues(ship), {1: (42, 1), 2: (50, 1)})
        ship.sail(1)
        self.assertEqual(ship.claims(), [(1, "wage", 0, (42, 1), BOTH), (2, "wage", 4, (55, 1), BOTH)])

    def test_a_wage_dismissed_on_its_first_day(self):
        ship = ship_out()
        ship.sail(6)
        ship.hire(3)
        ship.dismiss(1)
        ship.sail(6)
        self.assertEqual(ship.claims(), [(1, "wage", 6, (0, 1), BOTH)])

    def test_loans_after_losses(self):
        ship = ship_out(60)
        ship.load(2, 40, 0)
        ship.sail(2)
        ship.lend((0, 2), 50, 20)
        self.assertEqual(ship.claims(), [(1, "loan", 2, (60, 1), (0, 2))])
        ship.lose(0, 10)
        self.assertEqual(dues(ship), {1: (54, 1)})
        ship.lose(2, 5)
        self.assertEqual(dues(ship), {1: (51, 1)})
        ship.sail(9)
        ship.lose(2, 35)
        self.assertEqual(ship.claims(), [(1, "loan", 2, (30, 1), (0, 2))])
        ship.lose(0, 50)
        self.assertEqual(dues(ship), {1: (0, 1)})

    def test_losses_of_other_funds_and_ahead_of_the_lending(self):
        ship = ship_out(60)
        ship.load(2, 40, 8)
        ship.lose(0, 30)
        ship.lend((0,), 50, 0)
        ship.lose(2, 40)
        ship.lose(1, 3)
        self.assertEqual(dues(ship), {1: (50, 1)})
        ship.lose(0, 10)
        ship.lend((0, 1), 7, 0)
        self.assertEqual(dues(ship), {1: (100, 3), 2: (7, 1)})
        ship.lose(1, 5)
        self.assertEqual(dues(ship), {1: (100, 3), 2: (28, 5)})

    def test_freights_that_grew_since_the_lending(self):
        ship = ship_out(60)
        ship.load(2, 40, 10)
        ship.lend((1,), 50, 0)
        ship.load(3, 40, 90)
        self.assertEqual(dues(ship), {1: (50, 1)})
        ship.lose(1, 9)
        self.assertEqual(dues(ship), {1: (5, 1)})
        # More is lost than the freights were worth when it was lent.
        ship.lose(1, 30)
        self.assertEqual(dues(ship), {1: (0, 1)})

    def test_rescues(self):
        ship = ship_out(60)
        ship.sail(3)
        ship.rescue((0,), 25)
        ship.lose(0, 59)
        ship.sail(8)
        self.assertEqual(ship.claims(), [(1, "rescue", 3, (25, 1), (0,))])

    def test_old_dues(self):
        ship = ship_out(10)
        ship.lend((0,), 50, 1)
        ship.land()
        # Due 50 and a half, paid 10: the rest is cut down.
        self.assertEqual(ship.claims(), [(1, "old", 1, (40, 1), BOTH)])
        ship.go_out(15)
        ship.sail(30)
        ship.lose(0, 1)
        self.assertEqual(ship.claims(), [(1, "old", 1, (40, 1), BOTH)])

    def test_an_old_due_keeps_its_number_and_voyage(self):
        ship = ship_out(10)
        ship.land()
        ship.go_out(10)
        ship.rescue((0,), 100)
        ship.land()
        self.assertEqual(ship.claims(), [(1, "old", 2, (90, 1), BOTH)])
        ship.go_out(20)
        ship.rescue((0,), 19)
        ship.land()
        self.assertEqual(ship.claims(), [(1, "old", 2, (89, 1), BOTH)])

    def test_rests_below_1_are_gone(self):
        for lent, gain, left in [(9, 20, []), (10, 0, []), (10, 9, []), (10, 10, [1]), (11, 0, [1]), (11, 9, [1]),
                                 (10, 19, [1]), (10, 20, [2])]:
            ship = ship_out(10)
            ship.lend((0,), lent, gain)
            ship.land()
            self.assertEqual(ship.claims(), [(1, "old", 1, (rest, 1), BOTH) for rest in left])

    def test_numbers_never_come_again(self):
        ship = ship_out(10)
        ship.hire(1)
        ship.rescue((0,), 30)
        ship.land()
        self.assertEqual([claim[0] for claim in ship.claims()], [2])
        ship.go_out(10)
        ship.hire(2)
        ship.lend((0,), 1, 0)
        self.assertEqual([claim[:3] for claim in ship.claims()], [(2, "old", 1), (3, "wage", 0), (4, "loan", 0)])
        ship.settle(2, 20)
        self.assertEqual([claim[0] for claim in ship.claims()], [3, 4])
        ship.hire(2)
        self.assertEqual([claim[0] for claim in ship.claims()], [3, 4, 5])

    def test_settling(self):
        ship = ship_out(10)
        ship.rescue((0,), 30)
        ship.rescue((0,), 30)
        ship.land()
        self.assertEqual(dues(ship), {1: (25, 1), 2: (25, 1)})
        ship.settle(2, 24)
        self.assertEqual(dues(ship), {1: (25, 1), 2: (1, 1)})
        ship.settle(2, 1)
        self.assertEqual(ship.claims(), [(1, "old", 1, (25, 1), BOTH)])


class Bills(SoonCase):
    def test_the_owners_alone(self):
        ship = ship_out(60)
        ship.load(4, 7, 2)
        worths = [60, 2, 0, 0, 7, 0]
        self.assertEqual(ship.bill(), [((worth, 1), (fund,), 0) for fund, worth in enumerate(worths)])
        self.assertEqual(ship.stand(), ([], row(*worths)))

    def full_ship(self):
        ship = ship_out(10)
        ship.rescue((0,), 30)
        ship.land()
        ship.go_out(10)
        ship.rescue((0,), 25)
        ship.land()
        ship.go_out(60)
        ship.load(2, 9, 6)
        ship.hire(3)
        ship.lend((0, 2), 10, 1)
        ship.sail(1)
        ship.rescue((2,), 4)
        ship.lend((1,), 5, 0)
        ship.hire(7)
        ship.sail(2)
        ship.lose(2, 1)
        return ship

    def test_claims_by_number_and_then_the_owners(self):
        ship = self.full_ship()
        loan = part_of(value_of((101, 10)) * 68 / 69)
        self.assertEqual(ship.claims(), [
            (1, "old", 1, (20, 1), BOTH), (2, "old", 2, (15, 1), BOTH), (3, "wage", 0, (9, 1), BOTH),
            (4, "loan", 0, loan, (0, 2)), (5, "rescue", 1, (4, 1), (2,)), (6, "loan", 1, (5, 1), (1,)),
            (7, "wage", 1, (14, 1), BOTH),
        ])
        self.assertEqual(ship.bill(), [
            ((20, 1), BOTH, 4), ((15, 1), BOTH, 3), ((9, 1), BOTH, 0), (loan, (0, 2), 2), ((4, 1), (2,), 1),
            ((5, 1), (1,), 1), ((14, 1), BOTH, 0), ((60, 1), (0,), 5), ((6, 1), (1,), 5), ((8, 1), (2,), 5),
            ((0, 1), (3,), 5), ((0, 1), (4,), 5), ((0, 1), (5,), 5),
        ])

    def test_the_stand_is_the_sharing_out(self):
        ship = self.full_ship()
        for worth in [0, 30, 20, 9]:
            if worth:
                ship.lose(0, worth)
            numbers, owners = ship.stand()
            parts = [part for number, part in numbers] + owners
            self.assertEqual([number for number, part in numbers], [1, 2, 3, 4, 5, 6, 7])
            self.assertEqual(parts, own_shared(ship.funds, ship.bill()))
            self.assertIs(is_sharing(ship.funds, ship.bill(), parts), True)

    def test_the_stands_of_landings_are_kept(self):
        ship = self.full_ship()
        self.assertEqual(ship.landed, [([(1, (10, 1))], row(0, 0, 0, 0, 0, 0)),
                                       ([(1, (0, 1)), (2, (10, 1))], row(0, 0, 0, 0, 0, 0))])
        stand = ship.stand()
        ship.land()
        self.assertEqual(ship.landed[2:], [stand])

    def test_large_numbers(self):
        ship = ship_out(LONG)
        ship.sail(LONG)
        ship.lend((0,), LONG, LONG)
        ship.lose(0, 1)
        due = part_of(value_of((LONG * (100 + LONG), 100)) * (LONG - 1) / LONG)
        self.assertEqual(ship.claims(), [(1, "loan", LONG, due, (0,))])
        self.assertEqual(ship.stand(), ([(1, (LONG - 1, 1))], row(0, 0, 0, 0, 0, 0)))


class Kept(unittest.TestCase):
    def everything(self, ship):
        return (ship.away, ship.today, ship.voyage, list(ship.funds), list(ship.lots), ship.claims(), ship.bill(),
                ship.made, list(ship.landed))

    def busy_ship(self):
        ship = ship_out(60)
        ship.load(2, 9, 6)
        ship.hire(3)
        ship.lend((0, 2), 90, 1)
        ship.sail(3)
        return ship

    def test_copies_go_their_own_ways(self):
        for change in [lambda ship: ship.load(3, 5, 5), lambda ship: ship.sail(1), lambda ship: ship.hire(1),
                       lambda ship: ship.dismiss(1), lambda ship: ship.lend((0,), 1, 1), lambda ship: ship.land(),
                       lambda ship: ship.rescue((0,), 1), lambda ship: ship.lose(0, 5)]:
            ship = self.busy_ship()
            before = self.everything(ship)
            other = ship.copy()
            self.assertEqual(self.everything(other), before)
            change(other)
            other.sail(2)
            self.assertEqual(self.everything(ship), before)
            after = self.everything(other)
            self.assertNotEqual(after, before)
            change(ship)
            self.assertEqual(self.everything(other), after)

    def test_copies_at_home_go_their_own_ways(self):
        ship = self.busy_ship()
        ship.land()
        before = self.everything(ship)
        other = ship.copy()
        other.settle(2, 1)
        other.go_out(5)
        self.assertEqual(self.everything(ship), before)

    def test_lists_told_may_be_changed(self):
        ship = self.busy_ship()
        before = self.everything(ship)
        ship.claims().clear()
        ship.bill().clear()
        stand = ship.stand()
        whole = (list(stand[0]), list(stand[1]))
        stand[0].clear()
        stand[1][0] = "mine"
        self.assertEqual(self.everything(ship), before)
        self.assertEqual(ship.stand(), whole)


if __name__ == "__main__":
    unittest.main()
