import itertools
import unittest

from drawn import KINDS, any_letter, greatest_letters, least_letters
from reckoning import stream_of_signs, taken
from stormpost.letters import Joiner, letter_of, letter_signs, made_letter, pieces_of
from stormpost.queues import Queue

LONG = tuple(range(40))


def letter(count, way=(0, 1), kind="part", about=(), body=LONG):
    return (count, tuple(way), kind, tuple(about), tuple(body))


def matter(a_letter):
    return (a_letter[1][0], a_letter[1][-1], a_letter[2], a_letter[3])


class Line:
    """A queue by the document's words: all letters in one row, and of each the pieces that are left."""

    def __init__(self):
        self.row = []

    def put(self, new):
        for entry in self.row:
            if not entry["begun"] and matter(entry["letter"]) == matter(new):
                if new[0] > entry["letter"][0]:
                    entry.update(letter=new, left=pieces_of(letter_signs(new)))
                return
        self.row.append({"letter": new, "left": pieces_of(letter_signs(new)), "begun": False})

    def to_come(self):
        return sorted(self.row, key=lambda entry: (not entry["begun"], entry["letter"][2] != "news"))

    def next_piece(self):
        if not self.row:
            return None
        entry = self.to_come()[0]
        entry["begun"] = True
        piece = entry["left"].pop(0)
        if not entry["left"]:
            self.row = [other for other in self.row if other is not entry]
        return piece

    def waiting(self):
        return [entry["letter"] for entry in self.to_come()]

    def clear(self):
        letters = self.waiting()
        self.row = []
        return letters


def queue_of(letters):
    queue = Queue()
    for one in letters:
        queue.put(one)
    return queue


def letters_given(queue):
    """All letters that the queue gives from here on, put together."""
    joiner, letters = Joiner(), []
    piece = queue.next_piece()
    while piece is not None:
        whole = joiner.take(piece)
        if whole is not None:
            letters.append(letter_of(whole))
        piece = queue.next_piece()
    return letters


class OrderTest(unittest.TestCase):
    def test_the_pieces_are_those_of_the_letters_signs(self):
        signs = stream_of_signs(1)
        for one in least_letters() + greatest_letters() + [any_letter(signs) for i in range(50)]:
            queue = Queue()
            self.assertIsNone(queue.put(one))
            for piece in pieces_of(letter_signs(one)):
                self.assertEqual(queue.waiting(), [one])
                told = queue.next_piece()
                self.assertIsInstance(told, list)
                self.assertEqual(told, piece)
            self.assertEqual((queue.waiting(), queue.next_piece()), ([], None))

    def test_in_the_order_of_putting(self):
        for kind in KINDS:
            letters = [letter(count, (count % 6, 9), kind, (count,)) for count in (5, 3, 9, 0, 7)]
            queue = queue_of(letters)
            self.assertEqual(queue.waiting(), letters)
            for place, one in enumerate(letters):
                for piece in pieces_of(letter_signs(one)):
                    self.assertEqual(queue.waiting(), letters[place:])
                    self.assertEqual(queue.next_piece(), piece)
            self.assertEqual(queue.waiting(), [])
            self.assertIsNone(queue.next_piece())

    def test_news_ahead_of_others(self):
        for kinds in itertools.product(KINDS, repeat=4):
            letters = [letter(10 - place, kind=kind, about=(place,)) for place, kind in enumerate(kinds)]
            news = [one for one in letters if one[2] == "news"]
            others = [one for one in letters if one[2] != "news"]
            queue = queue_of(letters)
            self.assertEqual(queue.waiting(), news + others)
            self.assertEqual(letters_given(queue), news + others)

    def test_a_letter_that_was_begun_is_ended_first(self):
        begun = letter(1, about=(1,))
        pieces = pieces_of(letter_signs(begun))
        news = [letter(2, kind="news", about=(place,)) for place in range(3)]
        for given in range(len(pieces) + 1):
            queue = queue_of([begun, letter(3, about=(3,))])
            self.assertEqual([queue.next_piece() for i in range(given)], pieces[:given])
            for one in news:
                queue.put(one)
            if given == 0:
                row = news + [begun]
            elif given < len(pieces):
                row = [begun] + news
            else:
                row = news
            self.assertEqual(queue.waiting(), row + [letter(3, about=(3,))])
            if given > 0:
                self.assertEqual([queue.next_piece() for i in pieces[given:]], pieces[given:])
                self.assertEqual(letters_given(queue), news + [letter(3, about=(3,))])

    def test_news_that_were_begun_are_ended_ahead_of_other_news(self):
        first, second = letter(1, kind="news", about=(1,)), letter(0, kind="news", about=(2,))
        queue = queue_of([first])
        queue.next_piece()
        queue.put(letter(4))
        queue.put(second)
        self.assertEqual(queue.waiting(), [first, second, letter(4)])

    def test_what_is_put_when_all_was_given(self):
        queue = Queue()
        for count in (4, 4, 3, 5):
            self.assertIsNone(queue.next_piece())
            queue.put(letter(count))
            self.assertEqual(letters_given(queue), [letter(count)])


class SameMatterTest(unittest.TestCase):
    def test_the_greater_count_stays_in_that_place(self):
        for kind in KINDS:
            rows = [letter(10, kind=kind, about=(place,)) for place in range(3)]
            for place, count in itertools.product(range(3), (0, 9, 11, 900000)):
                queue = queue_of(rows)
                # The way between and the body may be others.
                new = letter(count, (0, 5, 1), kind, (place,), (1, 2, 3))
                queue.put(new)
                row = list(rows)
                if count > 10:
                    row[place] = new
                self.assertEqual(queue.waiting(), row)
                self.assertEqual(letters_given(queue), row)

    def test_whichever_was_put_first(self):
        for counts in itertools.permutations((3, 5, 8, 900000)):
            queue = Queue()
            for count in counts:
                queue.put(letter(count, body=(count % 97,)))
                queue.put(letter(count, about=(1,)))
            greatest = [letter(900000, body=(900000 % 97,)), letter(900000, about=(1,))]
            self.assertEqual(queue.waiting(), greatest)

    def test_the_same_letter_twice_is_one(self):
        for kind in KINDS:
            queue = queue_of([letter(3, kind=kind)] * 3)
            self.assertEqual(queue.clear(), [letter(3, kind=kind)])

    def test_each_of_the_four_makes_another_matter(self):
        one = letter(5, (0, 2, 1), "ask", (7,))
        for other in (
            letter(6, (3, 2, 1), "ask", (7,)), letter(6, (0, 2, 3), "ask", (7,)), letter(6, (1, 2, 0), "ask", (7,)),
            letter(6, (0,), "ask", (7,)), letter(6, (1,), "ask", (7,)), letter(6, (0, 1, 2), "ask", (7,)),
            letter(6, (0, 2, 1), "answer", (7,)), letter(6, (0, 2, 1), "had", (7,)),
            letter(6, (0, 2, 1), "ask", (8,)), letter(6, (0, 2, 1), "ask", ()),
            letter(6, (0, 2, 1), "ask", (7, 0)), letter(6, (0, 2, 1), "ask", (0, 7)),
        ):
            self.assertEqual(queue_of([one, other]).waiting(), [one, other])
            self.assertEqual(queue_of([other, one]).waiting(), [other, one])

    def test_a_letter_that_was_begun_is_none_of_them(self):
        for kind, count in itertools.product(KINDS, (0, 4, 5, 6, 900000)):
            begun, new = letter(5, kind=kind), letter(count, kind=kind, body=(1,))
            queue = queue_of([begun])
            pieces = [queue.next_piece()]
            queue.put(new)
            self.assertEqual(queue.waiting(), [begun, new])
            pieces += [queue.next_piece() for i in range(len(pieces_of(letter_signs(begun))) - 1)]
            self.assertEqual(pieces, pieces_of(letter_signs(begun)))
            self.assertEqual(queue.waiting(), [new])
            # The new one waits: now it is one of them.
            queue.put(letter(count - 1 if count else 0, kind=kind))
            self.assertEqual(queue.waiting(), [new])
            queue.put(letter(900000, kind=kind, body=(2,)))
            self.assertEqual([one[0] for one in queue.waiting()], [900000])
            self.assertEqual(len(letters_given(queue)), 1)

    def test_what_was_thrown_away_is_not_among_them(self):
        queue = queue_of([letter(1), letter(9), letter(3)])
        self.assertEqual(queue.clear(), [letter(9)])
        queue.put(letter(2))
        self.assertEqual(queue.waiting(), [letter(2)])


class ClearTest(unittest.TestCase):
    def test_an_empty_queue(self):
        queue = Queue()
        for turn in range(3):
            self.assertEqual((queue.waiting(), queue.clear(), queue.next_piece()), ([], [], None))

    def test_at_each_place(self):
        letters = [letter(1), letter(2, about=(2,), kind="news"), letter(3, about=(3,), body=())]
        many = sum(len(pieces_of(letter_signs(one))) for one in letters)
        for given in range(many + 2):
            queue = queue_of(letters)
            for i in range(given):
                queue.next_piece()
            row = queue.waiting()
            self.assertEqual(queue.clear(), row)
            self.assertEqual((queue.waiting(), queue.next_piece(), queue.clear()), ([], None, []))
            # Nothing of what was begun comes later, nor is it among those that wait.
            queue.put(letter(0))
            self.assertEqual(queue.waiting(), [letter(0)])
            self.assertEqual(letters_given(queue), [letter(0)])


class WordsTest(unittest.TestCase):
    def test_against_a_queue_by_the_documents_words(self):
        for seed in range(60):
            signs = stream_of_signs(700 + seed)
            queue, line = Queue(), Line()
            for count in range(150):
                deed = next(signs) % 8
                if deed < 3:
                    way = ((0, 1), (0, 2, 1), (1, 0), (0,))[next(signs) % 4]
                    # An origin's letters have unlike counts, whichever comes first.
                    number = (count * 350003) % 900001
                    body = taken(signs, next(signs) % 57)
                    new = made_letter(number, way, KINDS[next(signs) % 5], [1] * (next(signs) % 2), body)
                    queue.put(new)
                    line.put(new)
                elif deed < 7 or next(signs) % 10:
                    self.assertEqual(queue.next_piece(), line.next_piece())
                else:
                    self.assertEqual(queue.clear(), line.clear())
                self.assertEqual(queue.waiting(), line.waiting())


class OwnershipTest(unittest.TestCase):
    def test_told_lists_are_the_askers_own(self):
        letters = [letter(1), letter(2, about=(2,))]
        pieces = [piece for one in letters for piece in pieces_of(letter_signs(one))]
        queue = queue_of(letters)
        for place, piece in enumerate(pieces):
            waiting = queue.waiting()
            before = list(waiting)
            waiting.reverse()
            waiting.pop()
            self.assertEqual(queue.waiting(), before)
            told = queue.next_piece()
            self.assertEqual(told, piece)
            told.append(5)
            told.clear()
        queue = queue_of(letters)
        told = queue.waiting()
        cleared = queue.clear()
        queue.put(letter(7))
        self.assertEqual((told, cleared), (letters, letters))
        cleared.append(letter(8))
        self.assertEqual((told, queue.waiting()), (letters, [letter(7)]))

    def test_a_told_list_is_not_changed_later(self):
        queue = queue_of([letter(1), letter(2, about=(2,))])
        told = queue.waiting()
        queue.put(letter(5, about=(2,)))
        queue.put(letter(6, about=(6,)))
        queue.next_piece()
        queue.clear()
        self.assertEqual(told, [letter(1), letter(2, about=(2,))])

    def test_a_letter_made_of_lists_that_are_changed_later(self):
        way, about, body = [0, 1], [], list(LONG)
        queue = queue_of([made_letter(1, way, "part", about, body)])
        way.append(2)
        about.append(3)
        body.clear()
        self.assertEqual(queue.waiting(), [letter(1)])
        self.assertEqual(letters_given(queue), [letter(1)])

    def test_asked_again_tells_alike(self):
        queue = queue_of([letter(1), letter(2, kind="news")])
        for turn in range(12):
            self.assertEqual(queue.waiting(), queue.waiting())
            queue.next_piece()

    def test_what_is_told_may_be_put_again(self):
        queue = queue_of([letter(1), letter(2, kind="news")])
        other = queue_of(queue.clear())
        self.assertEqual(other.waiting(), [letter(2, kind="news"), letter(1)])

    def test_two_queues_are_apart(self):
        one, other = Queue(), Queue()
        one.put(letter(1))
        self.assertEqual((one.waiting(), other.waiting(), other.next_piece()), ([letter(1)], [], None))
        one.next_piece()
        other.put(letter(2))
        self.assertEqual((one.waiting(), other.waiting()), ([letter(1)], [letter(2)]))
        self.assertEqual(other.next_piece(), pieces_of(letter_signs(letter(2)))[0])
        self.assertEqual(one.next_piece(), pieces_of(letter_signs(letter(1)))[1])
        self.assertEqual(one.clear(), [letter(1)])
        self.assertEqual((other.waiting(), Queue().waiting()), ([letter(2)], []))


if __name__ == "__main__":
    unittest.main()
