import copy
import itertools
import unittest

from drawn import any_name, any_news, number_below, otherwise, restretched, shuffled
from reckoning import FAR, NO_SIGNS, picked, stream_of_signs, taken
from stormpost.errors import BadNews
from stormpost.letters import letter_of, letter_signs, made_letter
from stormpost.maps import Map, made_news, news_body, news_of

WIRES = ((0, 4, (1, 9000)), (5, 10, (7, 8)), (31, 1, (9000, 1)))
PLAIN = (3, 17, WIRES, ("a", "post", "zz"))
LEAST = (0, 0, (), ())
GREATEST = (
    31, 900000,
    tuple((other, 10, (9000, 9000)) for other in (26, 27, 28, 29, 30)),
    ("wzzz", "xzzz", "yzzz", "zzzz"),
)
EDGES = [
    LEAST, GREATEST, PLAIN,
    (31, 900000, (), ()), (0, 0, ((1, 1, (1, 1)),), ("a",)), (0, 900000, (), GREATEST[3]),
    (0, 0, tuple((other, 1, (1, 1)) for other in (1, 2, 3, 4, 5)), ("a", "aa", "aaa", "aaaa")),
]


def drawn_news(seed, many):
    signs = stream_of_signs(seed)
    return [any_news(signs) for i in range(many)]


def with_part(place, part):
    news = list(PLAIN)
    news[place] = part
    return news


def map_of(news):
    chart = Map()
    for one in news:
        chart.hear(one)
    return chart


def wires_by_words(news):
    """The wires that stand by news of unlike houses, as the document words it."""
    wires = []
    for one, other in itertools.permutations(news, 2):
        for there, back in itertools.product(one[2], other[2]):
            if there[0] == other[0] and back[0] == one[0] and there[2] == back[2] and one[0] < other[0]:
                wires.append((one[0], other[0], max(there[1], back[1])))
    return sorted(wires)


def told_by(chart, names=()):
    return (chart.news(), chart.wires(), [chart.holder(name) for name in names])


class MadeNewsTest(unittest.TestCase):
    def test_of_lists_and_tuples_in_any_order(self):
        signs = stream_of_signs(1)
        for news in EDGES + drawn_news(2, 300):
            house, number, near, names = news
            for kinds in itertools.product((list, tuple), repeat=2):
                made = made_news(house, number, kinds[0](shuffled(signs, near)), kinds[1](shuffled(signs, names)))
                self.assertEqual(made, news)
                self.assertIsInstance(made, tuple)
                for part in (made[2], made[3]) + made[2] + tuple(wire[2] for wire in made[2]):
                    self.assertIsInstance(part, tuple)

    def test_each_order(self):
        for near, names in itertools.product(itertools.permutations(WIRES), itertools.permutations(PLAIN[3])):
            self.assertEqual(made_news(3, 17, list(near), names), PLAIN)

    def test_names_rise_as_texts_do(self):
        names = ["b", "a", "ab", "aa"]
        for order in itertools.permutations(names):
            self.assertEqual(made_news(0, 0, [], order)[3], ("a", "aa", "ab", "b"))

    def refused(self, news):
        with self.subTest(news=news), self.assertRaises(BadNews):
            made_news(*news)

    def test_houses_and_numbers_beyond(self):
        for house in range(32):
            self.assertEqual(made_news(house, 0, (), ()), (house, 0, (), ()))
        for house in (-1, 32, 33, -32, 97, FAR, -FAR):
            self.refused(with_part(0, house))
            self.refused((house, 0, (), ()))
        for number in (0, 1, 96, 97, 899999, 900000):
            self.assertEqual(made_news(*with_part(1, number))[1], number)
        for number in (-1, 900001, 912672, 912673, -900000, FAR, -FAR):
            self.refused(with_part(1, number))

    def test_six_wires(self):
        wires = [(other, 1, (1, 1)) for other in (9, 4, 5, 8, 6, 7, 10)]
        self.assertEqual(len(made_news(3, 0, wires[:5], [])[2]), 5)
        for many in (6, 7):
            self.refused(with_part(2, wires[:many]))
            self.refused(with_part(2, tuple(wires[:many])))

    def refused_wire(self, wire):
        """Alone, and at each place among others."""
        self.refused(with_part(2, [wire]))
        for place in range(4):
            near = [(10, 2, (3, 4)), (20, 3, (4, 5)), (30, 4, (5, 6))]
            near.insert(place, wire)
            self.refused(with_part(2, near))
            self.refused(with_part(2, tuple(near)))

    def test_wires_to_where_none_can_lead(self):
        for other in (3, -1, 32, 33, -32, FAR, -FAR):
            self.refused_wire((other, 5, (1, 1)))
        for other in (10, 20, 30):
            near = [(10, 2, (3, 4)), (20, 3, (4, 5)), (30, 4, (5, 6))]
            for twin in ((other, 2, (3, 4)), (other, 3, (4, 5)), (other, 9, (9, 9))):
                self.refused(with_part(2, near + [twin]))
                self.refused(with_part(2, (twin,) + tuple(near)))

    def test_quiets_and_births_beyond(self):
        for quiet in range(1, 11):
            self.assertEqual(made_news(0, 0, [(1, quiet, (1, 1))], [])[2], ((1, quiet, (1, 1)),))
        for quiet in (0, 11, -1, 12, 97, FAR, -FAR):
            self.refused_wire((5, quiet, (1, 1)))
        for birth in (1, 2, 97, 8999, 9000):
            for pair in ((birth, 1), (9000, birth)):
                self.assertEqual(made_news(0, 0, [(1, 1, pair)], [])[2], ((1, 1, pair),))
        for birth in (0, 9001, -1, 9408, 9409, -9000, FAR, -FAR):
            for pair in ((birth, 1), (1, birth), (birth, birth), (9000, birth)):
                self.refused_wire((5, 1, pair))

    def refused_name(self, name):
        """Alone, and at each place among others."""
        self.refused(with_part(3, [name]))
        for place in range(4):
            names = ["b", "cd", "efg"]
            names.insert(place, name)
            self.refused(with_part(3, names))
            self.refused(with_part(3, tuple(names)))

    def test_names_that_are_none(self):
        for letter in "abcdefghijklmnopqrstuvwxyz":
            self.assertEqual(made_news(0, 0, [], [letter * 4])[3], (letter * 4,))
        for name in ("", "aaaaa", "abcdefgh", "A", "aZ", "a1", "0", "-", " ", "a b", " a", "a ", "a\n", "`", "{", "a.b"):
            self.refused_name(name)
        for code in (0xE4, 0xDF, 0x3B1, 0x61 + 0xFEE0, 0x1F4A9, 0, 9, 37, 127, 170, 181):
            self.refused_name(chr(code))
            self.refused_name("a" + chr(code))

    def test_five_names_and_one_twice(self):
        self.assertEqual(made_news(0, 0, [], ["d", "c", "b", "a"])[3], ("a", "b", "c", "d"))
        for names in (["a", "b", "c", "d", "e"], list("abcdefg"), ["a"] * 5, ["a", "a"], ["b", "a", "b"], ["x"] * 4):
            self.refused(with_part(3, names))
            self.refused(with_part(3, tuple(names)))


class BodyTest(unittest.TestCase):
    def test_a_letters_body_can_hold_it(self):
        for news in EDGES + drawn_news(3, 500):
            body = news_body(news)
            self.assertIsInstance(body, tuple)
            self.assertTrue(all(type(sign) is int and 0 <= sign <= 96 for sign in body))
            self.assertTrue(1 <= len(body) <= 56)
            letter = made_letter(900000, (5, 4, 3, 2, 1, 0), "news", (96,) * 4, body)
            self.assertEqual(news_of(letter_of(letter_signs(letter))[4]), news)

    def test_there_and_back(self):
        for news in EDGES + drawn_news(4, 1500):
            told = news_of(news_body(news))
            self.assertEqual(told, news)
            self.assertEqual(made_news(*told), told)
            for part in (told, told[2], told[3]) + told[2] + tuple(wire[2] for wire in told[2]):
                self.assertIsInstance(part, tuple)

    def test_unlike_news_have_unlike_bodies(self):
        news = EDGES + drawn_news(5, 1500)
        # Those that differ in one thing alone, and those of which names run into one another.
        for names in ((), ("a",), ("b",), ("aa",), ("a", "b"), ("ab",), ("a", "ab"), ("aa", "b"), ("a", "b", "c"),
                      ("abc",), ("a", "bc"), ("ab", "c"), ("aaaa",), ("a", "aaa"), ("aa", "ab", "b", "ba")):
            for near in ((), WIRES[:1], WIRES[:2], WIRES, ((0, 4, (9000, 1)),), ((0, 5, (1, 9000)),)):
                for house, number in itertools.product((1, 2), (0, 1, 97)):
                    news.append((house, number, near, names))
        news = sorted(set(news))
        self.assertEqual(len({news_body(one) for one in news}), len(news))


class NewsOfTest(unittest.TestCase):
    def refused(self, body):
        with self.subTest(body=body), self.assertRaises(BadNews):
            news_of(body)

    def looked_at(self, body):
        """Either refused, or the body of just the news that it tells; tells which of both."""
        try:
            news = news_of(body)
        except BadNews:
            return False
        self.assertEqual(made_news(*news), news)
        self.assertEqual(news_body(news), body)
        return True

    def test_no_sign_at_all(self):
        self.refused(())

    def test_numbers_that_are_no_signs(self):
        for news in EDGES:
            body = news_body(news)
            for place, number in itertools.product(range(len(body) + 1), NO_SIGNS):
                self.refused(body[:place] + (number,) + body[place + 1:])
                self.refused(body[:place] + (number,) + body[place:])
        for number in NO_SIGNS:
            for length in range(1, 58):
                self.refused((number,) * length)

    def test_signs_put_otherwise(self):
        for news in EDGES + drawn_news(6, 10):
            taken_bodies = [self.looked_at(tuple(body)) for body in otherwise(news_body(news), range(97))]
            self.assertIn(True, taken_bodies)
            self.assertIn(False, taken_bodies)

    def test_stretches_exchanged_or_twice_there(self):
        for news in EDGES + drawn_news(7, 40):
            for body in restretched(news_body(news), range(1, 13)):
                self.looked_at(tuple(body))

    def test_wires_and_names_in_another_order(self):
        # Bodies of news that are alike but for two names or wires, exchanged stretch by stretch.
        near = ((4, 1, (1, 1)), (5, 2, (1, 2)))
        body = news_body((3, 1, near, ("ab", "cd")))
        taken_bodies = [self.looked_at(tuple(other)) for other in restretched(body, range(1, 9))]
        self.assertIn(False, taken_bodies)

    def test_any_two_signs_of_a_short_body(self):
        for news in ((31, 900000, (), ()), (0, 899999, (), ("z",))):
            body = list(news_body(news))
            greatest = 0
            for one, other in itertools.combinations(range(len(body)), 2):
                for pair in itertools.product(range(97), repeat=2):
                    turned = list(body)
                    turned[one], turned[other] = pair
                    if self.looked_at(tuple(turned)):
                        greatest = max(greatest, news_of(tuple(turned))[1])
            self.assertEqual(greatest, 900000)

    def test_births_beyond(self):
        # All that two signs of a body with one wire can be, at places that stand side by side.
        body = list(news_body((1, 2, ((3, 4, (9000, 9000)),), ())))
        greatest = 0
        for place in range(len(body) - 1):
            for pair in itertools.product(range(97), repeat=2):
                turned = body[:place] + list(pair) + body[place + 2:]
                if self.looked_at(tuple(turned)):
                    greatest = max([greatest] + [max(wire[2]) for wire in news_of(tuple(turned))[2]])
        self.assertEqual(greatest, 9000)

    def test_any_bodies(self):
        signs = stream_of_signs(8)
        for turn in range(3000):
            self.looked_at(tuple(taken(signs, 1 + turn % 60)))
            self.looked_at(tuple(sign % 7 for sign in taken(signs, 1 + turn % 60)))
        for sign in range(97):
            for length in range(1, 75):
                self.looked_at((sign,) * length)
        for length in range(1, 8):
            for row in itertools.product((0, 1, 2), repeat=length):
                self.looked_at(row)


class MapTest(unittest.TestCase):
    def test_nothing_heard(self):
        chart = Map()
        self.assertEqual(told_by(chart, ("a", "", "zzzz")), ([], [], [None, None, None]))

    def test_the_greatest_number_is_kept(self):
        for numbers in itertools.permutations((0, 1, 5, 900000)):
            chart = Map()
            greatest = -1
            for number in numbers:
                news = made_news(4, number, [(number % 4, 1, (1, 1))], ["abcd"[number % 4]])
                for turn in range(2):
                    newer = number > greatest
                    self.assertIs(chart.hear(news), newer)
                    greatest = max(greatest, number)
                kept = made_news(4, greatest, [(greatest % 4, 1, (1, 1))], ["abcd"[greatest % 4]])
                self.assertEqual(chart.news(), [kept])
                for name in "abcd":
                    self.assertEqual(chart.holder(name), 4 if name in kept[3] else None)

    def test_the_number_nought_is_news_too(self):
        chart = Map()
        self.assertIs(chart.hear((0, 0, (), ())), True)
        self.assertIs(chart.hear((0, 0, (), ())), False)
        self.assertEqual(chart.news(), [LEAST])

    def test_news_by_houses(self):
        for houses in itertools.permutations((0, 2, 9, 10, 31)):
            chart = Map()
            for number, house in enumerate(houses):
                self.assertIs(chart.hear((house, number, (), ())), True)
            self.assertEqual([news[0] for news in chart.news()], [0, 2, 9, 10, 31])

    def test_a_wire_stands_where_both_tell_it_with_one_pair(self):
        pairs = ((1, 1), (1, 2), (2, 1), (2, 2), (9000, 1))
        for there, back in itertools.product(pairs, repeat=2):
            for one, other in ((0, 31), (31, 0), (7, 8)):
                chart = Map()
                self.assertIs(chart.hear((one, 0, ((other, 3, there),), ())), True)
                self.assertEqual(chart.wires(), [])
                self.assertIs(chart.hear((other, 0, ((one, 5, back),), ())), True)
                wire = (min(one, other), max(one, other), 5)
                self.assertEqual(chart.wires(), [wire] if there == back else [])

    def test_its_length_is_the_greater_quiet(self):
        for there, back in itertools.product(range(1, 11), repeat=2):
            chart = map_of([(2, 0, ((5, there, (3, 4)),), ()), (5, 0, ((2, back, (3, 4)),), ())])
            self.assertEqual(chart.wires(), [(2, 5, max(there, back))])

    def test_told_by_one_house_alone(self):
        chart = map_of([(2, 0, ((5, 1, (3, 4)),), ()), (5, 0, (), ()), (6, 0, ((5, 1, (3, 4)), (2, 1, (3, 4))), ())])
        self.assertEqual(chart.wires(), [])

    def test_a_wire_ends_and_begins_anew_by_newer_news(self):
        chart = map_of([(0, 1, ((1, 2, (1, 1)),), ()), (1, 1, ((0, 2, (1, 1)),), ())])
        self.assertEqual(chart.wires(), [(0, 1, 2)])
        self.assertIs(chart.hear((1, 0, (), ())), False)
        self.assertEqual(chart.wires(), [(0, 1, 2)])
        self.assertIs(chart.hear((1, 2, (), ())), True)
        self.assertEqual(chart.wires(), [])
        self.assertIs(chart.hear((1, 3, ((0, 2, (1, 2)),), ())), True)
        self.assertEqual(chart.wires(), [])
        self.assertIs(chart.hear((0, 2, ((1, 4, (1, 2)),), ())), True)
        self.assertEqual(chart.wires(), [(0, 1, 4)])

    def test_wires_rise(self):
        houses = (0, 3, 9, 10, 20, 31)
        news = [
            (house, 0, tuple((other, 1 + (house + other) % 10, (2, 2)) for other in houses if other != house), ())
            for house in houses
        ]
        wires = [(one, other, 1 + (one + other) % 10) for one, other in itertools.combinations(houses, 2)]
        for order in (news, news[::-1], news[3:] + news[:3]):
            self.assertEqual(map_of(order).wires(), wires)
            self.assertIsInstance(map_of(order).wires()[0], tuple)

    def test_the_holder_is_the_least_house(self):
        news = [(9, 0, (), ("a", "b")), (2, 0, (), ("b", "cc")), (31, 7, (), ("a", "d")), (0, 0, (), ("e",))]
        for order in itertools.permutations(news):
            chart = map_of(order)
            holders = [chart.holder(name) for name in ("a", "b", "cc", "d", "e", "c", "", "ab", "zzzz")]
            self.assertEqual(holders, [9, 2, 2, 31, 0, None, None, None, None])
        self.assertIs(chart.hear((2, 1, (), ())), True)
        self.assertEqual([chart.holder("b"), chart.holder("cc")], [9, None])

    def drawn_heard(self, seed):
        """News of at most six houses, with few pairs, so that some wires stand; one number, one news."""
        signs = stream_of_signs(seed)
        houses = picked(signs, 2 + next(signs) % 5, 32)
        heard = {}
        for turn in range(20):
            house = houses[next(signs) % len(houses)]
            others = shuffled(signs, [other for other in houses if other != house])[:next(signs) % 6]
            near = [(other, 1 + next(signs) % 10, (1, 1 + next(signs) % 2)) for other in others]
            names = {any_name(signs)[0] for i in range(next(signs) % 4)}
            number = next(signs) % 8
            heard.setdefault((house, number), made_news(house, number, near, list(names)))
        return signs, list(heard.values())

    def test_any_order_and_any_often(self):
        standing = 0
        for seed in range(120):
            signs, heard = self.drawn_heard(seed)
            kept = {}
            for news in heard:
                if news[0] not in kept or kept[news[0]][1] < news[1]:
                    kept[news[0]] = news
            kept = [kept[house] for house in sorted(kept)]
            names = "abcdefghijklmnopqrstuvwxyz"
            holders = [min([news[0] for news in kept if name in news[3]], default=None) for name in names]
            answer = (kept, wires_by_words(kept), holders)
            standing += len(answer[1])
            for turn in range(6):
                order = shuffled(signs, heard + heard[:number_below(signs, 1 + len(heard))])
                chart, numbers = Map(), {}
                for news in order:
                    self.assertIs(chart.hear(news), news[1] > numbers.get(news[0], -1))
                    numbers[news[0]] = max(news[1], numbers.get(news[0], -1))
                self.assertEqual(told_by(chart, names), answer)
        self.assertGreater(standing, 50)


class CopyTest(unittest.TestCase):
    def test_a_copy_goes_its_own_way(self):
        first = [(0, 1, ((1, 2, (1, 1)),), ("a",)), (1, 1, ((0, 3, (1, 1)),), ("b",))]
        chart = map_of(first)
        before = told_by(chart, "ab")
        twin = chart.copy()
        self.assertIsInstance(twin, Map)
        self.assertEqual(told_by(twin, "ab"), before)
        self.assertIs(twin.hear((1, 2, (), ())), True)
        self.assertIs(twin.hear((2, 0, (), ("b",))), True)
        self.assertEqual(told_by(chart, "ab"), before)
        self.assertEqual((twin.wires(), twin.holder("b"), len(twin.news())), ([], 2, 3))
        behind = told_by(twin, "ab")
        self.assertIs(chart.hear((0, 9, (), ())), True)
        self.assertEqual(told_by(twin, "ab"), behind)
        self.assertEqual((chart.wires(), chart.holder("a")), ([], None))

    def test_what_is_not_newer_to_the_map_is_not_to_its_copy(self):
        chart = map_of([PLAIN])
        for twin in (chart.copy(), chart.copy().copy()):
            self.assertIs(twin.hear(PLAIN), False)
            self.assertIs(twin.hear(made_news(3, 16, [], [])), False)
            self.assertIs(twin.hear(made_news(3, 18, [], [])), True)
        self.assertEqual(chart.news(), [PLAIN])

    def test_a_copy_of_an_empty_map(self):
        chart = Map()
        twin = chart.copy()
        twin.hear(PLAIN)
        self.assertEqual((chart.news(), twin.news()), ([], [PLAIN]))


class OwnershipTest(unittest.TestCase):
    def test_parts_handed_in_stay_and_may_be_changed_later(self):
        near, names = [WIRES[2], WIRES[0], WIRES[1]], ["zz", "a", "post"]
        before = copy.deepcopy((near, names))
        news = made_news(3, 17, near, names)
        self.assertEqual((near, names), before)
        near.pop()
        near.append((9, 9, (9, 9)))
        names.reverse()
        names.clear()
        self.assertEqual(news, PLAIN)
        chart = map_of([news])
        self.assertEqual(chart.news(), [PLAIN])
        for near, names in (([WIRES[1], WIRES[0], WIRES[1]], ["b"]), ([WIRES[1], WIRES[0]], ["b", "a", "A"])):
            before = copy.deepcopy((near, names))
            with self.assertRaises(BadNews):
                made_news(3, 17, near, names)
            self.assertEqual((near, names), before)

    def test_told_lists_are_the_askers_own(self):
        heard = [(0, 1, ((1, 2, (1, 1)),), ("a",)), (1, 1, ((0, 3, (1, 1)),), ("b",))]
        chart = map_of(heard)
        for turn in range(2):
            news, wires = chart.news(), chart.wires()
            self.assertEqual((news, wires), (heard, [(0, 1, 3)]))
            news.reverse()
            news.pop()
            wires.append((5, 6, 7))
            wires.reverse()
        news, wires = chart.news(), chart.wires()
        chart.hear((0, 2, (), ()))
        chart.hear((4, 2, (), ()))
        self.assertEqual((news, wires), (heard, [(0, 1, 3)]))

    def test_asked_again_tells_alike(self):
        chart = map_of([PLAIN, LEAST, GREATEST])
        self.assertEqual(told_by(chart, ("a", "zz")), told_by(chart, ("a", "zz")))
        for news in EDGES:
            self.assertEqual(news_body(news), news_body(news))
            self.assertEqual(news_of(news_body(news)), news_of(news_body(news)))

    def test_what_is_told_may_be_handed_in_again(self):
        chart = map_of([PLAIN, LEAST, GREATEST])
        self.assertEqual(map_of(chart.news()).news(), chart.news())

    def test_two_maps_are_apart(self):
        one, other = Map(), Map()
        one.hear(PLAIN)
        self.assertEqual((other.news(), other.holder("a")), ([], None))
        self.assertIs(other.hear(PLAIN), True)
        other.hear((3, 18, (), ()))
        self.assertEqual((one.news(), other.news(), Map().news()), ([PLAIN], [(3, 18, (), ())], []))


if __name__ == "__main__":
    unittest.main()
