"""A desk: it keeps a game and a saying, and is told rows."""

from pileduel.closing import machine
from pileduel.errors import NoRow
from pileduel.games import OTHER_HAND, look
from pileduel.gametexts import read_game
from pileduel.names import numbers_by_name
from pileduel.otherplan import plan_of
from pileduel.papermaker import paper_for
from pileduel.runs import least_cost, rule_to_go, run_from
from pileduel.sayings import is_in
from pileduel.sayingtexts import read_saying
from pileduel.within import least_moves

MOST_HANDED = 6
MOST_ARROWS = 200
HERE_WORDS = ("who", "move", "least")


class Desk:
    def __init__(self):
        self.game = None
        self.saying = None

    def say(self, row):
        if "\n" in row:
            raise NoRow()
        words = row.split(" ")
        if len(words) > 1 and words[0] == "game":
            return self.keep_game(told_text(words))
        if self.game is None:
            raise NoRow()
        if len(words) > 1 and words[0] == "saying":
            return self.keep_saying(told_text(words))
        if self.saying is None:
            raise NoRow()
        return answered(self.game, self.saying, words)

    def keep_game(self, text):
        game = read_game(text)
        look(game)
        self.game = game
        # The saying was of the game ahead.
        self.saying = None
        return "kept"

    def keep_saying(self, text):
        self.saying = read_saying(self.game, text)
        return "kept"


def told_text(words):
    return " ".join(words[1:]).replace(" ; ", "\n")


def answered(game, saying, words):
    if words == ["arrows"]:
        return str(len(machine(game, saying, MOST_ARROWS)))
    if words == ["plan"]:
        return str(len(plan_of(game, saying, paper_for(game, saying, MOST_ARROWS))))
    if words[0] not in HERE_WORDS:
        raise NoRow()
    here = read_here(game, words[1:])
    if words[0] == "who":
        return who(game, saying, here[0], here[1])
    if words[0] == "move":
        return move(game, saying, here[0], here[1])
    return least(game, saying, here[0], here[1])


def read_here(game, words):
    places = numbers_by_name([name for name, hand in game[0]])
    letters = numbers_by_name(game[1])
    if not 1 <= len(words) <= 1 + MOST_HANDED or words[0] not in places:
        raise NoRow()
    if not all([word in letters for word in words[1:]]):
        raise NoRow()
    return (places[words[0]], tuple([letters[word] for word in words[1:]]))


def who(game, saying, place, pile):
    cost = least_cost(saying, paper_for(game, saying, MOST_ARROWS), place, pile)
    return "other" if cost is None else f"first {cost}"


def move(game, saying, place, pile):
    if is_in(saying, place, pile):
        return "there"
    if game[0][place][1] == OTHER_HAND:
        return "none"
    paper = paper_for(game, saying, MOST_ARROWS)
    run = run_from(saying, paper, place, pile)
    return "none" if run is None else str(rule_to_go(game, paper, place, run))


def least(game, saying, place, pile):
    moves = least_moves(game, saying, place, pile)
    return "none" if moves is None else str(moves)
