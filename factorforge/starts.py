"""What a search for whole parts starts with: pieces without parts by a good prime, lifted and with their papers."""

from factorforge.bounds import good_prime, many_for
from factorforge.kinds import Rests
from factorforge.lifting import lifted
from factorforge.parting import parts
from factorforge.restpapers import paper


# The first four things of a whole paper: (prime, many, ups, papers).
def start_of(g):
    prime = good_prime(g)
    many = many_for(prime, g)
    kind = Rests(prime)
    pieces = [piece for piece, often in parts(kind, g)[1]]
    papers = [paper(kind, piece) for piece in pieces]
    return (prime, many, lifted(prime, many, g, pieces), papers)
