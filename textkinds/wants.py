"""What is wanted of a making: givens that lead to a goal or fail it, and whether it holds."""

from textkinds.algebra import other_than
from textkinds.building import turned_web
from textkinds.deeds import before_dropped, before_replaced, before_taken, machine_of
from textkinds.errors import NotSingle
from textkinds.machines import accepts
from textkinds.makings import givens_of, is_single, making_rows, need_givens, row_webs, value
from textkinds.shapes import SIGNS
from textkinds.texts import first_texts, least_text

SAMPLES = 3


def shared_text(web, machine):
    """A text that the web and the machine accept; None without any."""
    starts, ends, edges = web
    pairs = [(start, 0) for start in starts]
    # For each pair of states that is met, that from which it was, and the sign that led to it.
    came = {pair: None for pair in pairs}
    place = 0
    while place < len(pairs):
        pair = pairs[place]
        if ends[pair[0]] and machine[0][pair[1]]:
            return text_of_way(came, pair)
        for column, goal in edges[pair[0]]:
            onward = (goal, machine[1][pair[1]][column])
            if onward not in came:
                came[onward] = (pair, SIGNS[column])
                pairs.append(onward)
        place += 1
    return None


def text_of_way(came, pair):
    """The signs on the way to a pair."""
    signs = []
    step = came[pair]
    while step is not None:
        signs.append(step[1])
        step = came[step[0]]
    return "".join(signs[::-1])


def reaching(making, machines, goal):
    """Givens of which the making makes a text that the goal accepts; None without any."""
    need_givens(making, len(machines))
    if not is_single(making):
        raise NotSingle("a given is in the making twice")
    givens = [least_text(machine) for machine in machines]
    if None in givens:
        return None
    rows = making_rows(making)
    webs = row_webs(rows, machines)
    text = shared_text(webs[-1], goal)
    if text is None:
        return None
    for number, given in givens_for(rows, webs, text):
        givens[number] = given
    return givens


def givens_for(rows, webs, text):
    """A list of (number, given) for all givens of a single making, of which it makes a text of its kind."""
    told = []
    # Like parts are one row, but in a single making such have no given in them, and so are to make the same text.
    wanted = [""] * len(rows)
    wanted[-1] = text
    for place in reversed(range(len(rows))):
        row = rows[place]
        if row[0] == "given":
            told.append((row[1], wanted[place]))
        elif row[0] == "then":
            cut = cut_place(webs[row[1]], webs[row[2]], wanted[place])
            wanted[row[1]] = wanted[place][:cut]
            wanted[row[2]] = wanted[place][cut:]
        elif row[0] != "text":
            wanted[row[1]] = text_before(row, webs[row[1]], wanted[place])
    return told


def cut_place(one, other, text):
    """A place of the text up to which the one web accepts it, and from which on the other one does."""
    firsts = beginnings(one, text)
    lasts = beginnings(turned_web(other), text[::-1])
    return min([cut for cut in range(len(text) + 1) if firsts[cut] and lasts[len(text) - cut]])


def beginnings(web, text):
    """For each number of first signs of the text, from 0 on, whether the web accepts them."""
    starts, ends, edges = web
    states = sorted(starts)
    told = [any([ends[state] for state in states])]
    for sign in text:
        place = SIGNS.index(sign)
        states = sorted({goal for state in states for column, goal in edges[state] if column == place})
        told.append(any([ends[state] for state in states]))
    return told


def text_before(row, web, text):
    """A text that the web accepts, of which the deed of a row makes this text."""
    word = row[0]
    if word == "turned":
        return text[::-1]
    just = machine_of([text])
    if word == "taken":
        return shared_text(web, before_taken(just, row[2]))
    if word == "dropped":
        return shared_text(web, before_dropped(just, row[2]))
    return shared_text(web, before_replaced(just, row[2], row[3]))


def failing(making, machines, goal):
    """Givens of which the making makes a text that the goal does not accept; None without any."""
    return reaching(making, machines, other_than(goal))


def checked(making, machines, goal):
    """Whether the goal accepts all that the making makes: holds, fails or unsure."""
    need_givens(making, len(machines))
    samples = [first_texts(machine, SAMPLES) for machine in machines]
    if [] in samples or shared_text(row_webs(making_rows(making), machines)[-1], other_than(goal)) is None:
        return "holds"
    if is_single(making) or some_sample_fails(making, samples, goal):
        return "fails"
    return "unsure"


def some_sample_fails(making, samples, goal):
    """Whether of some list of one sample for each given the making makes a text that the goal does not accept."""
    used = givens_of(making)
    lists = [[]]
    for number, texts in enumerate(samples):
        # What is not in the making changes nothing of its text, and would only make the lists more.
        some = texts if number in used else texts[:1]
        lists = [ahead + [text] for ahead in lists for text in some]
    return any([not accepts(goal, value(making, givens)) for givens in lists])
