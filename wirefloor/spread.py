"""How prices spread along arcs from starts."""

from wirefloor.heap import Heap


def spread(arcs, starts):
    far = {}
    back = {}
    heap = Heap()
    for mark, price in starts:
        if mark not in far or price < far[mark]:
            far[mark] = price
            back[mark] = None
            heap.add(price, mark)
    while heap.many() > 0:
        price, mark = heap.take()
        # A pair that was undercut behind its adding says nothing any more.
        if price == far[mark]:
            for other, more in arcs(mark):
                if other not in far or price + more < far[other]:
                    far[other] = price + more
                    back[other] = mark
                    heap.add(price + more, other)
    return (far, back)


def way_back(back, mark):
    way = [mark]
    while back[way[-1]] is not None:
        way.append(back[way[-1]])
    return list(reversed(way))
