"""walksback.texts: lots, graphs and kept relations as texts, and back."""

import itertools
import unittest
from unittest.mock import ANY

from support import STRANGE, Case, is_plain, seeded, some_relation, some_ties, some_words
from test_work import WRONG_NODES
from walksback.errors import InvalidKept, InvalidNodes, InvalidText
from walksback.graphs import Graph
from walksback.lots import Lot
from walksback.texts import graph_text, kept_text, lot_text, read_graph, read_kept, read_lot

LOT = Lot(["b", "ab"])
GRAPH = Graph(11, [(10, "a", 2, 1000), (2, "b", 10, 0), (2, "a", 10, 7)])
KEPT = {"ab": [(0, 1), (2, 0)], "b": []}
# Lines that stand in no text of any kind.
WRONG_LINES = ("", " ", "word", "word ", " word a", "word  a", "word a ", "word a b", "word A", "word a1", "words a",
               "Word a", "a", "word " + "a" * 13, "nodes", "nodes ", "nodes 0", "nodes 121", "nodes 01", "nodes -1",
               "nodes +1", "nodes 1 ", "nodes 1 2", "nodes a", "node 1", "tie", "tie 0 a 0", "tie 0 a 0 0 0",
               "tie 00 a 0 0", "tie 0 A 0 0", "tie 0 ab 0 0", "tie 0 a 0 1001", "tie 0 a 0 01", "tie 0 a 0 -0",
               "tie  0 a 0 0", "tie 0 a 0 0 ", "tie 0 0 a 0", "ties 0 a 0 0", "tie 0 a 0 1_0", "tie 0 a 0 +1",
               "tie 0 a 0 0.0", "pair", "pair 0", "pair 0 1 0", "pair 00 1", "pair 0 01", "pair -1 0", "pair a 0",
               "pair 0  1", "pairs 0 1", "kept", "kept ", "kept A", "kept  b", "kept b ", "kept b b", "#", "undo",
               "tie 0 a 0 " + "9" * 5000, "pair 0 " + "1" * 5000, "nodes " + "9" * 5000)


def wrong_line(texts, text):
    """The wrong line of a text, by all texts of the kind, as far as its lines are of them; None if it is one."""
    if text in texts:
        return None
    rows = text.split("\n")
    lines = rows[:-1]
    for at in range(len(lines)):
        ahead = "".join(line + "\n" for line in lines[:at + 1])
        if not any(some.startswith(ahead) for some in texts):
            return at + 1
    return len(lines) + 1


class LotTextTest(Case):
    def test_ordinary(self):
        self.assertEqual("word b\nword ab\n", lot_text(LOT))
        self.assertEqual("word b\nword ab\nword bc\n", lot_text(lot=Lot(["bc", "ab", "b"])))
        self.assertEqual(LOT, read_lot("word b\nword ab\n"))
        self.assertEqual(LOT, read_lot(text="word b\nword ab\n"))
        self.assertEqual(["", Lot()], [lot_text(Lot()), read_lot("")])

    def test_drawn_lots(self):
        source = seeded(920)
        for _ in range(100):
            lot = Lot(some_words(source, "abz", 10, 12))
            self.assertEqual("".join(f"word {word}\n" for word in lot.words()), lot_text(lot))
            self.assertEqual(lot, read_lot(lot_text(lot)))

    def test_all_texts(self):
        words = ["a", "b", "aa", "ab", "aaa"]
        texts = {lot_text(Lot(some)) for size in range(6) for some in itertools.combinations(words, size)}
        lines = [f"word {word}" for word in words] + ["word A", "", "nodes 1"]
        found = [0, 0]
        for size in range(4):
            for some in itertools.product(lines, repeat=size):
                for text in ("".join(line + "\n" for line in some), "\n".join(some)):
                    wrong = wrong_line(texts, text)
                    found[wrong is None] += 1
                    if wrong is None:
                        self.assertEqual(text, lot_text(read_lot(text)))
                    else:
                        self.fails(InvalidText, {"line": wrong}, read_lot, text)
        self.assertGreater(min(found), 20)

    def test_wrong_lines(self):
        for line in WRONG_LINES + ("word b", "word a", "word ab", "tie 0 a 0 0", "nodes 1", "pair 0 0", "kept b"):
            self.fails(InvalidText, {"line": 3}, read_lot, f"word b\nword ab\n{line}\n")
            self.fails(InvalidText, {"line": 3}, read_lot, f"word b\nword ab\n{line}\n{line}\nword\n")
            self.fails(InvalidText, {"line": 3}, read_lot, f"word b\nword ab\n{line}\nword b")
        for line in WRONG_LINES:
            self.fails(InvalidText, {"line": 1}, read_lot, line + "\nword b\n")
        self.fails(InvalidText, {"line": 2}, read_lot, "word b\nword ab")
        self.fails(InvalidText, {"line": 1}, read_lot, "word b")
        self.fails(InvalidText, {"line": 1}, read_lot, "\n")
        self.fails(InvalidText, {"line": 3}, read_lot, "word b\nword ab\n\n")

    def test_ten_words_and_eleven(self):
        ten = "".join(f"word {letter}\n" for letter in "abcdefghij")
        self.assertEqual(10, len(read_lot(ten)))
        self.fails(InvalidText, {"line": 11}, read_lot, ten + "word k\n")
        self.fails(InvalidText, {"line": 11}, read_lot, ten + "word k")
        self.fails(InvalidText, {"line": 10}, read_lot, ten[:-7] + "word i\nword k\n")
        self.assertEqual(Lot(["a" * 12]), read_lot("word " + "a" * 12 + "\n"))

    def test_no_strings(self):
        for value in STRANGE + (["word b\n"], b"word b\n", LOT, ANY, 0, 1, ("word b",), {"word b\n": 1}):
            if not isinstance(value, str):
                self.fails(InvalidText, {"line": 1}, read_lot, value)
                self.fails(InvalidText, {"line": 1}, read_graph, value)
                self.fails(InvalidText, {"line": 1}, read_kept, LOT, 3, value)
                self.fails(InvalidText, {"line": 1}, read_kept, Lot(), 3, value)


class GraphTextTest(Case):
    def test_ordinary(self):
        text = "nodes 11\ntie 2 a 10 7\ntie 2 b 10 0\ntie 10 a 2 1000\n"
        self.assertEqual(text, graph_text(GRAPH))
        self.assertEqual(text, graph_text(graph=GRAPH))
        self.assertEqual(GRAPH, read_graph(text))
        self.assertEqual(GRAPH, read_graph(text=text))
        self.assertEqual(["nodes 1\n", Graph(120)], [graph_text(Graph(1)), read_graph("nodes 120\n")])

    def test_drawn_graphs(self):
        source = seeded(930)
        for _ in range(100):
            nodes = source.choice((1, 2, 11, 120))
            graph = Graph(nodes, some_ties(source, nodes, "abz", 15))
            told = read_graph(graph_text(graph))
            self.assertEqual(graph, told)
            self.assertTrue(is_plain(told.ties()))
            rows = [f"tie {begin} {letter} {end} {cost}\n" for begin, letter, end, cost in graph.ties()]
            self.assertEqual(f"nodes {nodes}\n" + "".join(rows), graph_text(graph))

    def test_all_texts(self):
        ties = [(0, "a", 0, 1), (0, "a", 1, 0), (0, "b", 0, 3), (1, "a", 0, 0)]
        texts = {graph_text(Graph(2, some)) for size in range(5) for some in itertools.combinations(ties, size)}
        lines = [f"tie {begin} {letter} {end} {cost}" for begin, letter, end, cost in ties]
        lines += ["nodes 2", "nodes 0", "tie 2 a 0 0", "word a"]
        for size in range(4):
            for some in itertools.product(lines, repeat=size):
                for text in ("".join(line + "\n" for line in some), "\n".join(some)):
                    wrong = wrong_line(texts, text)
                    if wrong is None:
                        self.assertEqual(text, graph_text(read_graph(text)))
                    else:
                        self.fails(InvalidText, {"line": wrong}, read_graph, text)

    def test_wrong_lines(self):
        head = "nodes 3\ntie 0 b 1 5\n"
        for line in WRONG_LINES + ("word b", "nodes 3", "tie 0 b 1 5", "tie 0 b 1 6", "tie 0 b 1 4", "tie 0 a 1 6",
                                   "tie 0 b 0 6", "tie 3 a 0 0", "tie 1 a 3 0", "pair 0 0", "kept b", "tie 0 a 2 0"):
            self.fails(InvalidText, {"line": 3}, read_graph, f"{head}{line}\n")
            self.fails(InvalidText, {"line": 3}, read_graph, f"{head}{line}\ntie 2 a 2 0\nno\n")
        for line in WRONG_LINES + ("word b", "tie 0 a 0 0", "pair 0 0", "kept b"):
            self.fails(InvalidText, {"line": 1}, read_graph, line + "\ntie 0 a 0 0\n")
        self.fails(InvalidText, {"line": 1}, read_graph, "")
        self.fails(InvalidText, {"line": 1}, read_graph, "nodes 3")
        self.fails(InvalidText, {"line": 2}, read_graph, "nodes 3\ntie 0 b 1 5")
        self.fails(InvalidText, {"line": 2}, read_graph, "nodes 3\n\n")
        for line in ("ties 2 a 2 0", "Tie 2 a 2 0", "word 2 a 2 0", "tie 2 A 2 0", "tie 2 a 2 1001", "tie 2 a 3 0"):
            self.fails(InvalidText, {"line": 3}, read_graph, f"{head}{line}\n")
        # Each tie is behind the one ahead of it, not behind the first one alone.
        self.fails(InvalidText, {"line": 4}, read_graph, head + "tie 2 a 2 0\ntie 1 a 0 0\n")
        # Numbers are compared as numbers, not as strings.
        self.assertEqual(2, len(read_graph("nodes 11\ntie 2 a 0 0\ntie 10 a 0 0\n")))
        self.fails(InvalidText, {"line": 3}, read_graph, "nodes 11\ntie 10 a 0 0\ntie 2 a 0 0\n")
        self.fails(InvalidText, {"line": 3}, read_graph, "nodes 11\ntie 0 a 10 0\ntie 0 a 2 0\n")

    def test_120_nodes_and_1000_ties_and_1001(self):
        ties = [(node, letter, goal, 0) for node in range(20) for letter in "abcde" for goal in range(10)]
        text = graph_text(Graph(120, ties))
        self.assertEqual(1000, len(read_graph(text)))
        self.fails(InvalidText, {"line": 1002}, read_graph, text + "tie 119 a 0 0\n")
        self.fails(InvalidText, {"line": 1002}, read_graph, text + "tie 119 a 0 0")
        self.fails(InvalidText, {"line": 1001}, read_graph, text[:-1])
        self.assertEqual([(119, "z", 119, 1000)], read_graph("nodes 120\ntie 119 z 119 1000\n").ties())
        self.fails(InvalidText, {"line": 2}, read_graph, "nodes 120\ntie 120 z 119 1000\n")


class KeptTextTest(Case):
    def test_ordinary(self):
        text = "kept b\nkept ab\npair 0 1\npair 2 0\n"
        self.assertEqual(text, kept_text(LOT, 3, KEPT))
        self.assertEqual(text, kept_text(lot=LOT, nodes=3, kept={"b": (), "ab": ((0, 1), (2, 0))}))
        self.assertEqual(KEPT, read_kept(LOT, 3, text))
        told = read_kept(lot=LOT, nodes=120, text=text)
        self.assertEqual([("b", []), ("ab", [(0, 1), (2, 0)])], list(told.items()))
        self.assertEqual(["", {}], [kept_text(Lot(), 1, {}), read_kept(Lot(), 1, "")])

    def test_drawn_relations(self):
        source = seeded(940)
        for _ in range(100):
            lot = Lot(some_words(source, "abz", 5, 4))
            nodes = source.choice((1, 3, 12, 120))
            kept = {word: some_relation(source, nodes, 12) for word in lot}
            text = "".join(f"kept {word}\n" + "".join(f"pair {x} {y}\n" for x, y in kept[word]) for word in lot.words())
            self.assertEqual(text, kept_text(lot, nodes, {word: kept[word] for word in lot.words()[::-1]}))
            told = read_kept(lot, nodes, text)
            self.assertEqual(kept, told)
            self.assertEqual(lot.words(), list(told))
            self.assertTrue(is_plain(told))

    def test_all_texts(self):
        relations = [[], [(0, 1)], [(1, 0)], [(0, 1), (1, 0)]]
        texts = {kept_text(LOT, 2, {"b": one, "ab": other}) for one in relations for other in relations}
        lines = ["kept b", "kept ab", "kept a", "pair 0 1", "pair 1 0", "pair 0 2", "nodes 2"]
        for size in range(6):
            for some in itertools.product(lines, repeat=size):
                for text in {"".join(line + "\n" for line in some), "\n".join(some)}:
                    if size > 4 and not text.startswith("kept b"):
                        continue
                    wrong = wrong_line(texts, text)
                    if wrong is None:
                        self.assertEqual(text, kept_text(LOT, 2, read_kept(LOT, 2, text)))
                    else:
                        self.fails(InvalidText, {"line": wrong}, read_kept, LOT, 2, text)

    def test_wrong_lines(self):
        head = "kept b\npair 0 1\n"
        for line in WRONG_LINES + ("word b", "nodes 3", "kept b", "kept c", "pair 0 1", "pair 0 0", "pair 3 0",
                                   "pair 1 3", "tie 0 a 0 0"):
            self.fails(InvalidText, {"line": 3}, read_kept, LOT, 3, f"{head}{line}\n")
            self.fails(InvalidText, {"line": 3}, read_kept, LOT, 3, f"{head}{line}\nkept ab\nno\n")
        for line in WRONG_LINES + ("kept ab", "pair 0 0"):
            self.fails(InvalidText, {"line": 1}, read_kept, LOT, 3, line + "\nkept ab\n")
            self.fails(InvalidText, {"line": 1}, read_kept, Lot(), 3, line + "\n")
        self.fails(InvalidText, {"line": 1}, read_kept, Lot(), 3, "kept b\n")
        self.fails(InvalidText, {"line": 1}, read_kept, Lot(), 3, "\n")
        # A kept word behind the last one, or again.
        self.fails(InvalidText, {"line": 3}, read_kept, LOT, 3, "kept b\nkept ab\nkept b\n")
        self.fails(InvalidText, {"line": 3}, read_kept, LOT, 3, "kept b\nkept ab\nkept bc\n")

    def test_lines_that_lack(self):
        for text, line in (("", 1), ("kept b\n", 2), ("kept b\npair 0 1\n", 3), ("kept b\npair 0 1\npair 2 2\n", 4)):
            self.fails(InvalidText, {"line": line}, read_kept, LOT, 3, text)
        for text, line in (("kept b", 1), ("kept b\nkept ab", 2), ("kept b\nkept ab\npair 0 1", 3)):
            self.fails(InvalidText, {"line": line}, read_kept, LOT, 3, text)

    def test_errors(self):
        self.fails_for_all(InvalidNodes, WRONG_NODES, lambda value: kept_text(LOT, value, KEPT))
        self.fails_for_all(InvalidNodes, WRONG_NODES, lambda value: read_kept(LOT, value, "kept b\nkept ab\n"))
        for value in STRANGE + ({"b": []}, {**KEPT, "c": []}, {"ab": [(0, 3)], "b": []}, {"ab": None, "b": []}, ANY,
                                {"ab": [(1, 0), (0, 1)], "b": []}, {"ab": [(0, 1), (0, 1)], "b": []}):
            self.fails(InvalidKept, {"value": value}, kept_text, LOT, 3, value)
        self.sequence(kept_text, {"lot": LOT, "nodes": 3, "kept": KEPT}, [
            ({"nodes": 121}, InvalidNodes, {"value": 121}), ({"kept": {}}, InvalidKept, {}),
        ])
        self.sequence(read_kept, {"lot": LOT, "nodes": 3, "text": "kept b\nkept ab\n"}, [
            ({"nodes": False}, InvalidNodes, {"value": False}), ({"text": None}, InvalidText, {"line": 1}),
        ])
        self.tells_anew(lambda: read_kept(LOT, 3, kept_text(LOT, 3, KEPT)))
        self.leaves((LOT, 3, {"ab": [(0, 1)], "b": [(2, 2)]}), kept_text)


if __name__ == "__main__":
    unittest.main()
