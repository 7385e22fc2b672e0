"""Every name of the interface is there, with its arguments."""

import importlib
import inspect
import unittest

INTERFACE = """
words: is_word(text), look_board(board)
maps: look_map(chart)
texts: show_board(board), read_board(text), show_map(chart), read_map(text)
tables: table(chart, word), over(one, other), every(many, one, other), board_tables(chart, board)
walks: walk(chart, word, x, y)
places: stretches(board, word), lands(board, word)
zigzags: zigzag(board, word), is_zigzag(board, word, places)
steps: steps_of(board, word, zigzag), let_by(board, word, steps), walked(steps)
workings: worked_out(many, tables, steps)
steptexts: show_steps(board, steps), read_steps(board, text)
twins: twins(board, word), part(board, word, one, other)
papers: paper(board, word), shows(board, word, paper)
readers: reader(board, colours, most=60)
reading: is_reader(colours, reader), takes(colours, reader, word), taken_words(colours, reader, length)
least: least_reader(colours, reader)
whole: first_open(board, colours, most=60), first_beyond(board, colours, most=60)
whole: first_unlike(one, other, colours, most=60), all_from(board, colours, most=60)
counts: how_many(colours, reader, number)
boards: fixes(board, other), are_same(one, other), lean(board), joined(one, other)
laying: laid_in(word, zigzag, board, other)
turning: word_turned(word), board_turned(board), map_turned(chart), zigzag_turned(word, zigzag)
spreading: word_spread(pairs, word), board_spread(pairs, board), zigzag_spread(pairs, word, zigzag)
spreading: gathered(pairs, chart)
beside: maps_beside(one, other)
needs: needed(board, word), enough(board, word), far(board, word)
helping: helping(board, word)
desk: Desk()
twoway: is_two_way(colours, two), two_takes(colours, two, word), two_way_of(board, colours)
ends: ends_of(colours, two, word)
oneway: one_way(colours, two, most=60)
sure: sure(many, board, tables, word), how_sure(many, board, tables, word, x, y)
freemap: free_map(many, board, tables)
joining: by_both(colours, one, other, most=60), by_either(colours, one, other, most=60)
joining: by_none(colours, reader, most=60), turned_reader(colours, reader, most=60)
many: how_many_zigzags(board, word, places), zigzags_to(board, word, places)
prices: cheapest(board, word, prices), bought(board, word, prices)
errors: NoBoard(at), NoMap(at), BadText(row), TooMany(most)
"""


class Interface(unittest.TestCase):
    def test_names_and_arguments(self):
        for row in INTERFACE.split("\n")[1:-1]:
            name, told = row.split(": ")
            module = importlib.import_module("walktold." + name)
            for one in told[:-1].split("), "):
                called, arguments = one.split("(")
                with self.subTest(module=name, name=called):
                    self.assertEqual(str(inspect.signature(getattr(module, called))), f"({arguments})")

    def test_the_desk(self):
        desk = importlib.import_module("walktold.desk")
        self.assertEqual(str(inspect.signature(desk.Desk().say)), "(row)")
