"""The lines of plans."""

from bymarks.plans import ENDS, MOVES, is_plan
from bymarks.textlines import need, need_new_name, numbers_behind


def line_of_numbers(word, numbers):
    """Return the line with a word and some numbers."""
    return " ".join([word] + [str(number) for number in numbers])


def lines_of_phase(phase):
    """Return the list of the lines of a phase."""
    puts, looks, clears, moves, end = phase
    found = [f"phase {end}", line_of_numbers("put", puts), line_of_numbers("look", looks)]
    if clears:
        found.append(line_of_numbers("clear", clears))
    return found + [line_of_numbers(move[0], move[1:]) for move in moves]


def lines_of_plan(name, plan, names):
    """Return the list of the lines of a plan, names being a dict from its deals to their names."""
    deals, phases, graves, lag = plan
    found = [" ".join(["plan", name] + [names[deal] for deal in deals])]
    if graves:
        found.append("graves")
    if lag:
        found.append("lag")
    for phase in phases:
        found.extend(lines_of_phase(phase))
    return found + ["end"]


def begins_with(line, words):
    """Tell whether the first word of a line is one of some words."""
    return len(line[1]) > 0 and line[1][0] in words


def phase_from(lines, at):
    """Return (phase, behind): the phase whose lines begin at a place, and the place behind them."""
    words = lines[at][1]
    need(len(words) == 2 and words[1] in ENDS, lines[at], "line")
    puts = numbers_behind(lines[at + 1], "put", 1, None)
    looks = numbers_behind(lines[at + 2], "look", 1, None)
    at = at + 3
    clears = ()
    if begins_with(lines[at], ("clear",)):
        clears = numbers_behind(lines[at], "clear", 1, None)
        at = at + 1
    moves = []
    while begins_with(lines[at], MOVES):
        word = lines[at][1][0]
        moves.append((word,) + numbers_behind(lines[at], word, 2, 2))
        at = at + 1
    return (puts, looks, clears, tuple(moves), words[1]), at


def plan_from(lines, at, known):
    """Return (plan, behind): the plan whose lines begin at a place, and the place behind them."""
    line = lines[at]
    names = line[1][2:]
    need(len(names) > 0, line, "line")
    need_new_name(line, "plan", known)
    need(all([("deal", name) in known for name in names]), line, "name")
    at = at + 1
    graves = lines[at][1] == ["graves"]
    at = at + 1 if graves else at
    lag = lines[at][1] == ["lag"]
    at = at + 1 if lag else at
    phases = []
    while begins_with(lines[at], ("phase",)):
        phase, at = phase_from(lines, at)
        phases.append(phase)
    need(lines[at][1] == ["end"], lines[at], "line")
    plan = (tuple([known["deal", name] for name in names]), tuple(phases), graves, lag)
    need(is_plan(plan), lines[at], "plan")
    return plan, at + 1
