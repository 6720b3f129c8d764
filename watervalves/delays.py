"""How long requests wait (point 8)."""


class Request:
    """A request that is not lost; its delay stays None if its valve is never opened for it."""

    def __init__(self, tick, valve):
        self.tick = tick
        self.valve = valve
        self.delay = None


def list_requests(course, many):
    """Return the requests that come up to the end of the first cycle, in their order.

    Those of later cycles have the same delays. At most two requests wait for a valve, so
    what comes in the first cycle is opened before two more have passed, or never.
    """
    requests = []
    queues = [[] for _ in range(many)]
    end = course.begin + course.length
    for tick in range(end + 2 * course.length):
        happening = course.happening(tick)
        for valve, lost in happening.asked:
            if not lost:
                request = Request(tick, valve)
                queues[valve].append(request)
                requests.append(request)
        for valve in happening.opened:
            request = queues[valve].pop(0)
            request.delay = tick - request.tick
    return [request for request in requests if request.tick < end]
