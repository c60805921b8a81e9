"""Accounts of whole runs: of water, of steam, of men [21]."""

from manrods.basics import tupled
from manrods.engines import heights_of
from manrods.mines import WholeRun, play_from
from manrods.plays import play_on
from manrods.rests import LOST


def _water_rows(play):
    """The tuple of the quintuples (came, lifted, spilt, let, held), CISTERN by CISTERN."""
    books = play.books
    return tuple(zip(books.came, books.lifted, books.spilt, books.let, play.held))


def water_book(run):
    """The tuple of the quintuples (came, lifted, spilt, let, held), CISTERN by CISTERN."""
    return _water_rows(WholeRun(run).play)


def water_sum(run):
    """The triple (came, out, held) of the mine."""
    play = WholeRun(run).play
    return (sum(play.books.came), play.out(), sum(play.held))


def _raised(play):
    """The units lifted, times their levels, added up."""
    return sum([amount * height for amount, height in zip(play.books.lifted, heights_of(play.mine[1]))])


def _fallen(play):
    """The units spilt and let, times their levels, added up."""
    down = [spilt + let for spilt, let in zip(play.books.spilt, play.books.let)]
    # What leaves a CISTERN downward falls as far as the lift of the one below it goes up.
    return sum([amount * height for amount, height in zip(down[1:], heights_of(play.mine[1]))])


def raised(run):
    """The units lifted, times their levels, added up."""
    return _raised(WholeRun(run).play)


def fallen(run):
    """The units spilt and let, times their levels, added up."""
    return _fallen(WholeRun(run).play)


def steam_book(run):
    """The quadruple (given, spent, over, left) of steam; None without an ENGINE."""
    play = WholeRun(run).play
    if play.mine[3] is None:
        return None
    return (play.books.given, play.books.spent, play.books.over, play.steam)


def men_book(run):
    """The tuple of the pairs (ups, downs), man by man."""
    return tupled(WholeRun(run).play.books.man_ways)


def stride_book(run):
    """The tuple of the pairs (ups, downs), stride by stride."""
    return tupled(WholeRun(run).play.books.stride_ways)


def _ledger(play, first):
    """The ledger of a play from this STANDING on."""
    ways = play.books.stride_ways
    water = (sum(play.books.came), play.out(), _raised(play), _fallen(play))
    lost = play.men.count(LOST) - first[4].count(LOST)
    rests, made = play.rest - first[0], play.made - first[1]
    return (rests, made, *water, sum([up for up, _ in ways]), sum([down for _, down in ways]), lost)


def ledger(run):
    """The tuple (rests, made, came, out, raised, fallen, ups, downs, lost) of run."""
    whole = WholeRun(run)
    return _ledger(whole.play, whole.rows[0])


def ledger_on(mine, faults, standing, told, many):
    """The ledger of so many rests from a STANDING on, DEEDS told for rests of a RUN."""
    first = tupled(standing)
    play = play_from(mine, faults, first)
    play_on(play, tupled(told), many)
    return _ledger(play, first)
