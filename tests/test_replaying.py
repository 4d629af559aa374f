"""Point 1002: books that are made again from their logs."""

import random
import unittest
from fractions import Fraction

from dealing import state_of
from linear import pair
from nolunch.books import Book
from nolunch.errors import JournalError, MarketError, PendingError, TextError, TooLarge
from nolunch.markets import nexts
from nolunch.notation import write_market
from nolunch.ratios import read_fraction, write_fraction
from nolunch.replaying import replay, replay_whole_lines
from nolunch.texts import read_contract
from playing import ALL_CONTRACTS, EVEN, FAIR_MARKETS, SPREAD, STEPS
from samples import EXAMPLE, MONEY_ALONE, MONEY_TREE, WIDE
from test_gains import random_market
from test_hedging import GAIN

HEAD = "goods 2\nmoment - 2 2\nmoment 0 3 3\nmoment 1 1 1\n"
SOLD = "sell 5/2 or(one(1), scale(number(2), one(0)))\n"
LINES = (SOLD, "sell -1 give(one(0))\n", "choose 0 0\n", "settle 2/3\n", "move 1\n", "settle 1/3\n")
LOG = HEAD + "money 1/2\n" + "".join(LINES)


def played(source, market, money):
    """The books of a game, one behind each deed."""
    book = Book(market, money)
    yield book
    while True:
        for _ in range(source.randint(0, 2)):
            try:
                book.sell(source.choice(ALL_CONTRACTS), pair(Fraction(source.randint(1, 9), 2)))
                yield book
            except ValueError:
                pass
        while book.asked():
            number, _ = source.choice(book.asked())
            option = source.randint(0, 1)
            try:
                book.choose(number, option)
            except ValueError:
                book.choose(number, 1 - option)
            yield book
        book.settle()
        yield book
        if nexts(market, book.path) == 0:
            return
        book.move(source.randrange(nexts(market, book.path)))
        yield book


class Replaying(unittest.TestCase):
    def hold_same(self, one, other):
        self.assertIsInstance(other, Book)
        self.assertEqual(state_of(other), state_of(one))
        self.assertEqual(other.spare(), one.spare())

    def test_books_stopped_at_every_kind_of_place(self):
        kinds = set()
        for seed in range(16):
            source = random.Random(seed)
            market = (EVEN, SPREAD, STEPS, EXAMPLE)[seed % 4]
            # A book that chooses ahead of clients needs more money than is asked for at first.
            for book in played(source, market, (60, 1)):
                kinds.add((bool(book.asked()), book.settled, nexts(market, book.path) == 0))
                self.hold_same(book, replay(book.log))
                self.hold_same(book, replay_whole_lines(book.log))
        self.assertEqual(len(kinds), 6)

    def test_a_replayed_book_goes_on_as_the_book_does(self):
        for seed in range(12):
            source = random.Random(50 + seed)
            market = FAIR_MARKETS[seed % 4]
            stop = source.randint(1, 9)
            twin = None
            text = ""
            for number, book in enumerate(played(source, market, (60, 1))):
                if number == stop:
                    twin = replay(book.log)
                elif twin is not None:
                    self.do(twin, book.log[len(text):])
                    self.hold_same(book, twin)
                text = book.log

    def do(self, book, line):
        """Do what a line tells; settling by itself."""
        words = line.rstrip("\n").split(" ", 2)
        if words[0] == "sell":
            book.sell(read_contract(words[2]), read_fraction(words[1]))
        elif words[0] == "choose":
            book.choose(int(words[1]), int(words[2]))
        elif words[0] == "settle":
            amounts = book.settle()
            self.assertEqual(" ".join(["settle"] + [write_fraction(each) for each in amounts]) + "\n", line)
        else:
            book.move(int(words[1]))

    def test_markets_of_every_number_of_goods(self):
        source = random.Random(1)
        for market in (MONEY_ALONE, MONEY_TREE, WIDE,
                       random_market(source, 3, (2, 2), Fraction(1, 10), Fraction(0))):
            book = Book(market, (7, 2))
            book.sell(("or", ("one", 0), ("later", ("one", market[0] - 1))), (2, 1))
            book.choose(0, 1)
            while True:
                self.hold_same(book, replay(book.log))
                book.settle()
                self.hold_same(book, replay(book.log))
                if nexts(market, book.path) == 0:
                    break
                book.move(0)

    def test_trades_are_those_that_stand_there(self):
        """Also where a book would do others."""
        for units, held in ((-2, (7, -2)), (0, (3, 0)), (1, (1, 1))):
            text = HEAD + f"money 3\nsettle {units}\n"
            book = replay(text)
            self.assertEqual(book.held, tuple((number, 1) for number in held))
            self.assertEqual(book.log, text)
            self.assertTrue(book.settled)
        # What is sold has to be bought for 3 at most.
        self.assertEqual(replay(HEAD + "money 0\nsettle 0\n").spare(), (0, 1))
        self.assertEqual(replay(HEAD + "money 1\nsettle -1\n").spare(), (0, 1))
        self.assertEqual(replay(HEAD + "money 1\nsettle 1\n").spare(), (0, 1))

    def test_a_whole_log(self):
        book = replay(LOG)
        self.assertEqual((book.path, book.settled, book.held), ((1,), True, ((4, 3), (0, 1))))
        self.assertEqual(book.log, LOG)

    def test_what_can_be_done_behind(self):
        book = replay(HEAD + "money 1/2\n" + SOLD)
        self.assertEqual(book.asked(), ((0, "holder"),))
        self.assertRaises(PendingError, book.settle)
        book.choose(0, 1)
        book.settle()
        book.move(0)
        self.assertEqual(book.path, (0,))


class WholeLines(unittest.TestCase):
    def test_logs_cut_at_any_place(self):
        """The text up to the last line feed counts; whatever is behind it is dropped."""
        begin = len(HEAD + "money 1/2\n")
        for cut in range(len(LOG) + 1):
            text = LOG[:cut]
            lines = text[:text.rfind("\n") + 1]
            if cut >= begin:
                self.assertEqual(replay_whole_lines(text).log, lines)
            else:
                # No line of money is left.
                self.assertRaises(JournalError, replay_whole_lines, text)
            if text != lines:
                self.assertRaises(JournalError, replay, text)

    def test_anything_behind_the_last_line_feed(self):
        for rest in ("x", "settle", "move 0", "goods 2", "\r", " "):
            self.assertEqual(replay_whole_lines(LOG + rest).log, LOG)
            self.assertRaises(JournalError, replay, LOG + rest)

    def test_errors_are_those_of_replay(self):
        for text in ("", "money 5", "x", "\n", "\n\n", "goods 2\n", HEAD, HEAD + "settle 0\n"):
            self.assertRaises(JournalError, replay_whole_lines, text)
        self.assertRaises(TextError, replay_whole_lines, "money 5\n")
        self.assertRaises(TextError, replay_whole_lines, "goods\nmoney 5\nmov")
        self.assertRaises(MarketError, replay_whole_lines, "goods 2\nmoment - 1 2\nmoney 5\n")
        self.assertRaises(JournalError, replay_whole_lines, LOG + "move 0\n")


class Errors(unittest.TestCase):
    def test_no_line_feed_at_the_end(self):
        """Ahead of whatever else is wrong."""
        for text in ("", "money 5", LOG[:-1], LOG + "move", "goods 2\nmoney 5", "goods 2\nmoment - 1 2\nmoney 1",
                     "\nx"):
            self.assertRaises(JournalError, replay, text)

    def test_no_line_of_money(self):
        """Ahead of what is wrong with the market."""
        for text in ("\n", HEAD, "goods 9\n", "x\n", HEAD + "settle 0\n", HEAD + " money 5\n",
                     HEAD + "Money 5\n", HEAD + "moneys 5\n", HEAD + "money5\n", "\n\n\n",
                     "goods 2\nmoment - 1 2\nsell 1 one(0)\n"):
            self.assertRaises(JournalError, replay, text)

    def test_what_is_wrong_with_the_text_of_the_market(self):
        """Ahead of all that is wrong with the deeds."""
        for rest in ("money 5\n", "money\n", "money 5\nmove 0\n", "money -1\nx\n"):
            for text in ("", "\n", "x\n", "goods 2\n", "goods 2\nmoment - 1/2 2/4\n", HEAD + "\n",
                         "goods 2\nmoment - 01 1\n", "goods 2\nmoment -  1 1\n", "\n" + HEAD,
                         "goods 2 \nmoment - 2 2\n", "goods 2\nmoment - +2 2\n", "goods 2\nmoment 0 2 2\n",
                         HEAD + "settle 0\n", HEAD.replace("\n", "\r\n"), HEAD.replace("3", "3.0")):
                with self.subTest(text=text, rest=rest):
                    self.assertRaises(TextError, replay, text + rest)
            self.assertRaises(MarketError, replay, "goods 2\nmoment - 1 2\n" + rest)
            self.assertRaises(MarketError, replay, "goods 0\nmoment -\n" + rest)
            self.assertRaises(MarketError, replay, "goods 5\nmoment -" + " 1" * 8 + "\n" + rest)
            self.assertRaises(TooLarge, replay, "goods 1\n" + "".join(
                "moment " + ".".join("0" * k or "-") + "\n" for k in range(7)) + rest)

    def test_lines_of_money(self):
        for line in ("money", "money ", "money  5", "money 5 ", "money 5 5", "money x", "money 05",
                     "money +5", "money 10/4", "money 5/1", "money -0", "money 5.0", "money -1",
                     "money -1/1000", "money 1" + "0" * 1000, "money\t5", "money 5\r"):
            with self.subTest(line=line):
                self.assertRaises(JournalError, replay, HEAD + line + "\n")
        self.assertEqual(replay(HEAD + "money 1" + "0" * 999 + "\n").held[0], (10 ** 999, 1))

    def test_a_sure_gain(self):
        for money in ("5", "-5", "x"):
            self.assertRaises(JournalError, replay, write_market(GAIN) + f"money {money}\n")

    def test_lines_with_another_form(self):
        for line in ("", " ", "x", "buy 1 one(0)", "Settle 0", "settle 0 ", " settle 0", "money 5", "asked",
                     "spare", "goods 2", "moment - 2 2", "#", "move 0",
                     "sell", "sell 9", "sell 9 ", "sell one(0)", "sell 9  one(0)", "sell 9 one(0) ",
                     "sell  9 one(0)", "sell 9 one(0", "sell 9 one( 0)", "sell 9 both(one(0),one(1))",
                     "sell 9 both(one(0),  one(1))", "sell 09 one(0)", "sell 9/3 one(0)", "sell +9 one(0)",
                     "sell 9 scale(number(2/2), one(0))", "sell 9 one(00)", "sell 9 two(0)",
                     "sell 9 at(1000000000, one(0))", "sell 9 one(0) one(0)", "sell 9.0 one(0)",
                     "choose", "choose 0", "choose 0 0 0", "choose  0 0", "choose 0  0", "choose 0 0 ",
                     "choose 00 0", "choose 0 00", "choose -0 0", "choose +0 0", "choose 0 x", "choose 0 0/1",
                     "choose 0 000000000"):
            with self.subTest(line=line):
                self.assertRaises(JournalError, replay, HEAD + "money 50\n" + SOLD + line + "\n")
        replay(HEAD + "money 50\n" + SOLD + "choose 0 0\n")

    def test_settles_and_moves_with_another_form(self):
        before = HEAD + "money 50\n"
        for line in ("settle", "settle ", "settle 0 0", "settle 0 ", "settle  0", "settle x", "settle -0",
                     "settle 0/1", "settle 2/4", "settle 00", "settle 1.0", "settle +1",
                     "settle 1" + "0" * 1000):
            self.assertRaises(JournalError, replay, before + line + "\n")
        before += "settle 0\n"
        for line in ("move", "move ", "move 0 0", "move  0", "move 0 ", "move 00", "move -0", "move x",
                     "move 0/1", "move 2", "move -1", "move 0000000000"):
            self.assertRaises(JournalError, replay, before + line + "\n")
        self.assertEqual(replay(before + "move 1\n").path, (1,))
        for line in ("settle 0", "settle ", "settle 0 0"):
            self.assertRaises(JournalError, replay, "goods 1\nmoment -\nmoney 5\n" + line + "\n")
        self.assertTrue(replay("goods 1\nmoment -\nmoney 5\nsettle\n").settled)

    def test_deeds_that_are_refused(self):
        before = HEAD + "money 1/2\n"
        done = before + "".join(LINES)
        self.assertEqual(replay(done).log, done)
        for text in (
                before + "sell 3/2 one(1)\nsell -1/1000 nothing\n",
                before + "sell 9 one(2)\n", before + "sell 9 one(-1)\n", before + "sell 9 at(-1, one(0))\n",
                before + "sell 9 " + "later(" * 20 + "nothing" + ")" * 20 + "\n",
                before + "sell 0 nothing\n" * 21, before + "sell 3 or(one(1), one(0))\n" * 7,
                before + "choose 0 0\n", before + SOLD + "choose 1 0\n", before + SOLD + "choose 0 2\n",
                before + SOLD + "choose 0 0\nchoose 0 0\n", before + SOLD + "settle 0\n",
                before + "sell 3/2 give(or(give(one(1)), give(scale(number(3), one(0)))))\nchoose 0 1\n",
                before + "move 0\n", before + "settle 0\nsettle 0\n", before + "settle 0\nsell 9 one(0)\n",
                before + "settle 0\nchoose 0 0\n", done + "move 0\n", done + "settle 0\n",
                done + "sell 1 nothing\n"):
            with self.subTest(text=text[len(before):]):
                self.assertRaises(JournalError, replay, text)

    def test_trades_that_do_not_leave_the_book_safe(self):
        for line in ("settle 501/1000", "settle -501/1000", "settle 100", "settle -100"):
            self.assertRaises(JournalError, replay, HEAD + "money 1/2\n" + line + "\n")
        for line in ("settle 1/2", "settle -1/2", "settle 1/4"):
            replay(HEAD + "money 1/2\n" + line + "\n")
        # At an end nothing that is held may be negative, goods included.
        at_end = HEAD + "money 1/2\nsettle -1/4\nmove 0\nsettle "
        self.assertEqual(replay(at_end + "1/4\n").held, ((1, 4), (0, 1)))
        for amount in ("0", "249/1000", "6", "-1"):
            self.assertRaises(JournalError, replay, at_end + amount + "\n")
        self.assertEqual(replay(at_end + "1/3\n").held, ((0, 1), (1, 12)))
        # The trades that would have been right are too few behind what has been sold.
        sold = HEAD + "money 0\nsell 1/2 at(1, scale(greatest(minus(buy(1), number(2)), number(0)), one(0)))\n"
        self.assertEqual(replay(sold + "settle 1/2\n").spare(), (0, 1))
        for amount in ("0", "499/1000", "501/1000", "-1/2"):
            self.assertRaises(JournalError, replay, sold + f"settle {amount}\n")


if __name__ == "__main__":
    unittest.main()
