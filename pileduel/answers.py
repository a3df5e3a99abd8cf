"""All answers of the other hand gone through, from a run."""

from pileduel.runs import run_behind, top_why


def all_answers(game, paper, place, run):
    # Plays that come to the same run go on alike: they are counted together.
    plays = {run: 1}
    moves = 0
    ends = ended(paper, plays)
    plays = behind_one_move(game, paper, plays)
    while len(plays) > 0:
        moves = moves + 1
        ends = ends + ended(paper, plays)
        plays = behind_one_move(game, paper, plays)
    return (moves, ends)


def ended(paper, plays):
    return sum([many for run, many in plays.items() if len(top_why(paper, run)) == 0])


def behind_one_move(game, paper, plays):
    told = {}
    for run, many in plays.items():
        for triple in top_why(paper, run):
            further = run_behind(game, paper, run, triple[0])
            told[further] = told.get(further, 0) + many
    return told
