"""Points 31 to 34, and points 4, 5, 7, 8 and 9 as far as they speak of tempo maps."""

import copy
import unittest
from fractions import Fraction

from anytempo.amounts import Amount, amount_text
from anytempo.errors import Falling, InvalidAmount, InvalidMap, InvalidPart, InvalidPoint, InvalidSheet
from anytempo.maps import TempoMap, order_by, places
from anytempo.sheets import Sheet
from reckoned import Dealer, amount_from, fraction, moments_of, places_of, plain, rows_of, taken, taken_back
from values import Checks, any_values, lists, sixty, strings, tuples, values_without

POINTS = [(-3, Amount(-1, 2)), (0, 0), (Amount(1, 2), 3), (4, Amount(7, 2)), (6, Amount(9, 2))]


def dealt(count=60):
    """The points of maps with up to twelve points."""
    dealer = Dealer(31)
    return [dealer.points(number % 13) for number in range(count)]


def beats_near(points):
    """Beats at, between, before and behind the points."""
    beats = sorted([fraction(beat) for beat, _ in points] or [Fraction(0)])
    middles = [(one + other) / 2 for one, other in zip(beats, beats[1:])]
    thirds = [(one * 2 + other) / 3 for one, other in zip(beats, beats[1:])]
    outside = [beats[0] - 1, beats[0] - Fraction(7, 3), beats[-1] + 5]
    return beats + middles + thirds + outside + [Fraction(0), Fraction(1, 7)]


def pace_of(points, beat):
    """The pace directly behind a beat, measured between it and the next point."""
    later = [fraction(one) for one, _ in points if fraction(one) > beat]
    end = min(later) if later else beat + 1
    return (taken(points, end) - taken(points, beat)) / (end - beat)


def standard(points):
    """The points at which the pace changes, or the one with the beat 0."""
    found = []
    for beat, second in plain(points):
        before = [fraction(one) for one, _ in points if fraction(one) < beat]
        start = max(before) if before else beat - 1
        if (second - taken(points, start)) / (beat - start) != pace_of(points, beat):
            found.append((beat, second))
    return found or [(Fraction(0), taken(points, 0))]


class Values(Checks, unittest.TestCase):
    """Points 31 and 32."""

    def check_amount(self, told, number):
        self.assertIsInstance(told, Amount)
        self.assertEqual(fraction(told), number)

    def test_example_of_the_document(self):
        tempo = TempoMap([(0, 0), (4, 2)])
        told = [amount_text(item) for item in [tempo(1), tempo(6), tempo.beat_of(1), tempo.pace(3), tempo.pace(4)]]
        self.assertEqual(told, ["1/2", "4", "2", "1/2", "1"])

    def test_seconds_beats_and_paces(self):
        for points in [POINTS, *dealt()]:
            tempo = TempoMap(points)
            for beat in beats_near(points):
                second = taken(points, beat)
                self.check_amount(tempo(amount_from(beat)), second)
                self.check_amount(tempo.beat_of(amount_from(second)), beat)
                self.check_amount(tempo.beat_of(amount_from(beat)), taken_back(points, beat))
                self.check_amount(tempo.pace(amount_from(beat)), pace_of(points, beat))

    def test_without_points(self):
        for tempo in [TempoMap(), TempoMap([]), TempoMap(()), TempoMap(points=[])]:
            for amount in [0, 5, -7, Amount(1, 3), sixty(1)]:
                self.check_amount(tempo(amount), fraction(amount))
                self.check_amount(tempo.beat_of(amount), fraction(amount))
                self.check_amount(tempo.pace(amount), 1)

    def test_one_point(self):
        tempo = TempoMap([(3, 5)])
        self.assertEqual(plain([tempo(3), tempo(0), tempo(10), tempo.beat_of(0)]), [5, 2, 12, -2])
        self.assertEqual([tempo.pace(2), tempo.pace(3), tempo.pace(4)], [Amount(1)] * 3)

    def test_the_pace_at_a_point_is_that_behind_it(self):
        tempo = TempoMap(POINTS)
        told = [plain(tempo.pace(beat)) for beat in [-4, -3, Amount(-1, 9), 0, Amount(1, 2), 4, 5, 6, 7]]
        sixth, seventh, half = Fraction(1, 6), Fraction(1, 7), Fraction(1, 2)
        self.assertEqual(told, [1, sixth, sixth, 6, seventh, half, half, 1, 1])

    def test_integers_for_amounts(self):
        tempo = TempoMap([(1, 2), (3, 9)])
        self.assertEqual([tempo(2), tempo.beat_of(9), tempo.pace(1)], [Amount(11, 2), Amount(3), Amount(7, 2)])
        self.assertEqual(tempo, TempoMap([(Amount(1), Amount(2)), (Amount(3), Amount(9))]))

    def test_arguments_by_name(self):
        tempo = TempoMap(points=POINTS)
        told = [tempo(beat=Amount(1, 2)), tempo.beat_of(second=3), tempo.pace(beat=0)]
        self.assertEqual(told, [Amount(3), Amount(1, 2), Amount(6)])

    def test_long_amounts(self):
        dealer = Dealer(32)
        points = [(sixty(0) - 1, sixty(9) - 5)]
        for number in range(1, 12):
            beat, second = points[-1]
            points.append((beat + abs(sixty(number)), second + abs(sixty(dealer.dice.randint(1, 50)))))
        tempo = TempoMap(points)
        for beat in [sixty(3), -sixty(4), Amount(10 ** 60 - 1), Amount(1, 10 ** 60 - 1), points[5][0]]:
            self.check_amount(tempo(beat), taken(points, beat))
            self.check_amount(tempo.beat_of(beat), taken_back(points, beat))
            self.check_amount(tempo.pace(beat), pace_of(points, fraction(beat)))
            self.check_amount(tempo.beat_of(tempo(beat)), fraction(beat))

    def test_wrong_amounts(self):
        tempo = TempoMap(POINTS)
        for value in any_values() + strings():
            for call in [tempo, tempo.pace]:
                self.check_raises(InvalidAmount, "value", value, call, value)
                self.check_raises(InvalidAmount, "value", value, call, beat=value)
            self.check_raises(InvalidAmount, "value", value, tempo.beat_of, value)
            self.check_raises(InvalidAmount, "value", value, tempo.beat_of, second=value)


class Making(Checks, unittest.TestCase):
    """Point 31."""

    def test_lists_and_tuples(self):
        for points in [lists(POINTS), tuples(POINTS), tuple(lists(POINTS)), POINTS]:
            self.assertEqual(TempoMap(points), TempoMap(POINTS))

    def test_what_was_passed_is_copied_and_not_changed(self):
        points = lists(POINTS)
        kept = copy.deepcopy(points)
        tempo = TempoMap(points)
        self.assertEqual(points, kept)
        for point in points:
            point[1] = "x"
        del points[2:]
        self.assertEqual(tempo, TempoMap(POINTS))

    def test_wrong_lists(self):
        for value in values_without(list, tuple) + [{0: 0}]:
            self.check_raises(InvalidPart, "value", value, TempoMap, value)
            self.check_raises(InvalidPart, "value", value, TempoMap, points=value)

    def test_wrong_points(self):
        wrong = values_without(list, tuple) + [(), [], (1,), [1], (1, 2, 3), [1, 2, 3]]
        for value in any_values() + strings():
            wrong = wrong + [(value, 9), (9, value), [value, 9], [9, value], (value, value)]
        for item in wrong:
            self.check_raises(InvalidPoint, "value", item, TempoMap, [item])
            self.check_raises(InvalidPoint, "value", item, TempoMap, [(0, 0), (1, 1), item, (0, 0)])
            self.check_raises(InvalidPoint, "value", item, TempoMap, ((0, 0), item, "x"))

    def test_falling_points(self):
        falling = [(1, 2), (2, 1), (1, 1), (0, 3), (3, 0), (0, 0), (Amount(1), Amount(5)), (Amount(5), Amount(1)),
                   (Amount(99999, 100000), 2), (2, Amount(-1, 2))]
        for point in falling:
            for before in [[], [(-5, -6)], [(-5, -6), (-4, -5), (Amount(1, 2), Amount(1, 3))]]:
                points = [*before, (1, 1), point]
                for told in [points, lists(points), [*points, (9, 9)], [*points, "x"]]:
                    error = self.raised(Falling, TempoMap, told)
                    self.assertEqual((error.index, error.index.__class__), (len(before) + 1, int))

    def test_points_are_checked_one_after_another(self):
        wrong = ["wrong"]
        self.check_raises(InvalidPoint, "value", wrong, TempoMap, [(0, 0), wrong, (0, 0)])
        self.assertEqual(self.raised(Falling, TempoMap, [(0, 0), (0, 1), wrong]).index, 1)
        self.assertEqual(self.raised(Falling, TempoMap, [(0, 0), (1, 1), (2, 1), (0, 0)]).index, 2)
        point = (-1, "x")
        self.check_raises(InvalidPoint, "value", point, TempoMap, [(0, 0), point])


class Maps(Checks, unittest.TestCase):
    """Point 33."""

    def test_example_of_the_document(self):
        tempo = TempoMap([(0, 0), (4, 2)])
        told = [TempoMap([(1, 1), (2, 2)]) == TempoMap(), tempo.inverse() == TempoMap([(0, 0), (2, 4)]),
                tempo.then(tempo.inverse()) == TempoMap()]
        self.assertEqual(told, [True, True, True])

    def check_points(self, tempo, points):
        self.assertEqual(plain(tempo.points()), points)
        self.assertIsInstance(tempo.points(), list)
        for point in tempo.points():
            self.assertIsInstance(point, tuple)
            self.assertEqual([item.__class__ for item in point], [Amount, Amount])

    def test_points(self):
        for points in [POINTS, *dealt()]:
            self.check_points(TempoMap(points), standard(points))
            self.assertEqual(TempoMap(TempoMap(points).points()), TempoMap(points))

    def test_points_at_which_nothing_changes_are_left_out(self):
        self.check_points(TempoMap([(-1, -1), (0, 0), (4, 2), (6, 3), (8, 4), (9, 5)]), [(0, 0), (8, 4)])
        self.check_points(TempoMap([(0, 0), (1, 2), (2, 4), (3, 5), (4, 6)]), [(0, 0), (2, 4)])

    def test_maps_without_changes(self):
        for points, second in [([], 0), ([(3, 5)], 2), ([(3, 1), (4, 2), (9, 7)], -2), ([(0, 7)], 7), ([(-2, -2)], 0),
                               ([(Amount(1, 2), Amount(1, 3))], Fraction(-1, 6))]:
            self.check_points(TempoMap(points), [(0, second)])

    def test_equality(self):
        for points in [POINTS, *dealt(30)]:
            tempo = TempoMap(points)
            more = [(amount_from(beat), amount_from(taken(points, beat))) for beat in sorted(set(beats_near(points)))]
            self.assertTrue(tempo == TempoMap(more))
            self.assertFalse(tempo != TempoMap(more))
            higher = [(beat, second + 1) for beat, second in points] or [(0, 1)]
            later = [(Amount(1, 9) + beat, second) for beat, second in points] or [(1, 0)]
            for other in [higher, later, [*more, (more[-1][0] + 1, more[-1][1] + 2)]]:
                self.assertFalse(tempo == TempoMap(other))
                self.assertTrue(tempo != TempoMap(other))

    def test_only_maps_are_equal(self):
        for value in values_without(TempoMap) + [POINTS, TempoMap(POINTS).points()]:
            self.assertIs(TempoMap(POINTS) == value, False)
            self.assertIs(value == TempoMap(POINTS), False)

    def test_inverse(self):
        for points in [POINTS, *dealt()]:
            tempo = TempoMap(points)
            turned = [(second, beat) for beat, second in points]
            self.assertIsInstance(tempo.inverse(), TempoMap)
            self.assertEqual(tempo.inverse(), TempoMap(turned))
            self.check_points(tempo.inverse(), standard(turned))
            self.assertEqual(tempo.inverse().inverse(), tempo)
            for amount in [Amount(0), Amount(7, 3), Amount(-5)]:
                self.assertEqual(tempo.inverse()(amount), tempo.beat_of(amount))

    def test_then(self):
        told = dealt(40)
        for points, later in zip([POINTS, *told], [*reversed(told), POINTS]):
            tempo, other = TempoMap(points), TempoMap(later)
            both = tempo.then(other)
            self.assertIsInstance(both, TempoMap)
            led = [taken_back(points, fraction(beat)) for beat, _ in later]
            for beat in beats_near(points) + led + [beat + Fraction(1, 100) for beat in led]:
                self.assertEqual(plain(both(amount_from(beat))), taken(later, taken(points, beat)))
            beats = {*[fraction(beat) for beat, _ in points], *led}
            self.check_points(both, standard([(beat, taken(later, taken(points, beat))) for beat in sorted(beats)]))
            self.assertEqual(tempo.then(tempo.inverse()), TempoMap())
            self.assertEqual(tempo.then(TempoMap()), tempo)
            self.assertEqual(TempoMap().then(tempo), tempo)
            self.assertEqual(both.inverse(), other.inverse().then(tempo.inverse()))

    def test_then_by_name(self):
        self.assertEqual(TempoMap([(0, 1)]).then(other=TempoMap([(0, 2)])), TempoMap([(0, 3)]))

    def test_results_with_many_points(self):
        tempo = TempoMap([(number, number * number + number) for number in range(1, 13)])
        points = tempo.points()
        for _ in range(5):
            tempo = tempo.then(tempo)
        self.assertGreater(len(tempo.points()), 200)
        beat = Amount(17, 5)
        second = fraction(beat)
        for _ in range(32):
            second = taken(points, second)
        self.assertEqual(plain(tempo(beat)), second)
        self.assertEqual(tempo.beat_of(tempo(beat)), beat)
        self.assertEqual(TempoMap(tempo.points()), tempo)

    def test_wrong_maps(self):
        for value in values_without(TempoMap) + [POINTS, [(0, 0)]]:
            self.check_raises(InvalidMap, "value", value, TempoMap(POINTS).then, value)
            self.check_raises(InvalidMap, "value", value, TempoMap(POINTS).then, other=value)

    def test_a_map_never_changes(self):
        tempo, other = TempoMap(POINTS), TempoMap([(1, 1), (2, 7)])
        kept = copy.deepcopy([vars(tempo), vars(other)])
        for call in [lambda: tempo(1), lambda: tempo.beat_of(1), lambda: tempo.pace(1), tempo.inverse,
                     lambda: tempo.then(other), lambda: tempo == other, tempo.points().clear, tempo.points().reverse]:
            call()
            self.assertEqual([vars(tempo), vars(other)], kept)
        self.assertIsNot(tempo.points(), tempo.points())


class Places(Checks, unittest.TestCase):
    """Points 4 and 34."""

    def dealt(self, count=120):
        dealer = Dealer(34)
        for number in range(count):
            yield dealer.cues(number % 13), dealer.points(number % 11)

    def test_places(self):
        for cues, points in self.dealt():
            sheet = Sheet(cues)
            found = places(sheet, TempoMap(points))
            expected = places_of(cues, points)
            self.assertIsInstance(found, list)
            self.assertEqual(len(found), len(moments_of(cues)))
            for name in ["start", *sheet.names()]:
                self.assertEqual(plain(found[sheet.moment(name)]), expected[name])
            for place in found:
                self.assertIsInstance(place, tuple)
                self.assertEqual([item.__class__ for item in place], [Amount, Amount])

    def test_order_by(self):
        for cues, points in self.dealt():
            sheet = Sheet(cues)
            order = order_by(sheet, TempoMap(points))
            expected = places_of(cues, points)
            beats = {sheet.moment(name): expected[name][0] for name in expected}
            seconds = {sheet.moment(name): expected[name][1] for name in expected}
            told = {beat: [number for number in sorted(beats) if beats[number] == beat] for beat in beats.values()}
            self.assertEqual(order, [told[beat] for beat in sorted(told)])
            self.assertEqual([seconds[group[0]] for group in order], sorted(set(seconds.values())))

    def test_the_start(self):
        self.assertEqual(places(Sheet([]), TempoMap([(0, 7)])), [(Amount(0), Amount(7))])
        self.assertEqual(order_by(Sheet([]), TempoMap()), [[0]])

    def test_groups(self):
        sheet = Sheet([("a", "start", "beats", 2), ("b", "start", "seconds", 3), ("c", "b", "beats", -2)])
        self.assertEqual(order_by(sheet, TempoMap([(0, 0), (2, 3)])), [[0, 3], [1, 2]])
        self.assertEqual(order_by(sheet, TempoMap()), [[0], [3], [1], [2]])
        self.assertEqual(order_by(sheet, TempoMap([(0, 0), (1, 3)])), [[3], [0], [2], [1]])

    def test_by_name(self):
        sheet = Sheet([("a", "start", "beats", 2)])
        self.assertEqual(places(tempo=TempoMap(), sheet=sheet), [(Amount(0), Amount(0)), (Amount(2), Amount(2))])
        self.assertEqual(order_by(tempo=TempoMap(), sheet=sheet), [[0], [1]])

    def test_long_amounts(self):
        cues = [("a", "start", "beats", sixty(1)), ("b", "a", "seconds", -sixty(2)), ("c", "b", "beats", sixty(3)),
                ("d", "c", "seconds", sixty(4)), ("e", "d", "beats", -sixty(5)), ("f", "e", "seconds", sixty(6)),
                ("g", "f", "beats", sixty(7))]
        points = [(sixty(0) * number, sixty(number) * number * number) for number in range(12)]
        sheet, tempo = Sheet(cues), TempoMap(points)
        self.assertEqual(plain(places(sheet, tempo)), list(places_of(cues, points).values()))
        beats = [place[0] for place in plain(places(sheet, tempo))]
        expected = sorted(range(8), key=lambda number: beats[number])
        self.assertEqual(order_by(sheet, tempo), [[number] for number in expected])

    def test_what_was_told_may_be_changed(self):
        sheet, tempo = Sheet([("a", "start", "beats", 2)]), TempoMap()
        places(sheet, tempo).clear()
        told = order_by(sheet, tempo)
        told[0].append(5)
        told.clear()
        self.assertEqual([len(places(sheet, tempo)), order_by(sheet, tempo)], [2, [[0], [1]]])
        self.assertIsNot(order_by(sheet, tempo)[0], order_by(sheet, tempo)[0])

    def test_wrong_arguments(self):
        sheet, tempo = Sheet([("a", "start", "beats", 2)]), TempoMap()
        for call in [places, order_by]:
            for value in values_without(Sheet):
                self.check_raises(InvalidSheet, "value", value, call, value, tempo)
                self.check_raises(InvalidSheet, "value", value, call, tempo=None, sheet=value)
            for value in values_without(TempoMap):
                self.check_raises(InvalidMap, "value", value, call, sheet, value)
            first, second = ["sheet"], ["map"]
            self.check_turns(call, [sheet, tempo], [(first, InvalidSheet, "value", first),
                                                    (second, InvalidMap, "value", second)])

    def test_equal_rows_are_at_one_place_by_every_map(self):
        for cues, points in self.dealt(40):
            rows = rows_of(cues)
            found = places_of(cues, points)
            for name in rows:
                self.assertTrue(all(found[name] == found[other] for other in rows if rows[other] == rows[name]))


if __name__ == "__main__":
    unittest.main()
