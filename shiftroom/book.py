"""The book of a room: a page for each seat, from which all that is reached is told.

The page of seat k holds seatings that leave the seats below k, one for each seat to which k can be sent. What is
reached is one of the last page, and then one of the page ahead of it, and so on to one of the first page.
"""

from shiftroom.seats import joined, rest, turned


class Entry:
    def __init__(self, seat, seating, step_number, back_number):
        self.seat = seat
        self.seating = seating
        self.way_back = turned(seating)
        self.step_number = step_number
        self.back_number = back_number


class Sifting:
    def __init__(self, seating):
        self.left = seating
        self.used = []

    def take_off(self, entry):
        self.left = joined(self.left, entry.way_back)
        self.used.append(entry)


def parts_of_step(step):
    if step[0] in ("back", "then"):
        return step[1:]
    return ()


def needed_steps(steps, goal):
    needed = {goal: True}
    # Steps are made of steps ahead of them alone, so one walk backward meets all that the goal needs.
    for number in range(goal, -1, -1):
        if number in needed:
            for part in parts_of_step(steps[number]):
                needed[part] = True
    return needed


def step_with_places(step, places):
    if step[0] in ("back", "then"):
        return tuple([step[0]] + [places[part] for part in step[1:]])
    return step


def steps_to(steps, goal):
    needed = needed_steps(steps, goal)
    places = {}
    told = []
    for number in range(goal + 1):
        if number in needed:
            places[number] = len(told)
            told.append(step_with_places(steps[number], places))
    return told


def seatings_of_page(page):
    return [page[goal].seating for goal in sorted(page)]


class Book:
    def __init__(self, size):
        self.resting = rest(size)
        # Step 0 is rest, and it is its own way back.
        self.steps = [("rest",)]
        self.pages = [{seat: Entry(seat, self.resting, 0, 0)} for seat in range(size)]
        self.entries = []
        self.joined_so_far = 0

    def sift(self, seating):
        sifting = Sifting(seating)
        for seat, page in enumerate(self.pages):
            goal = sifting.left[seat]
            if goal != seat:
                if goal not in page:
                    return sifting
                sifting.take_off(page[goal])
        return sifting

    def reaches(self, seating):
        return self.sift(seating).left == self.resting

    def put_move(self, move, number):
        sifting = self.sift(move)
        if sifting.left == self.resting:
            return False
        self.put_entry(sifting, ("move", number))
        self.fill()
        return True

    def put_step(self, step):
        self.steps.append(step)
        return len(self.steps) - 1

    def put_entry(self, sifting, first_step):
        # An entry costs at most 17 steps and a book of 16 seats has at most 120 entries: so few are
        # written down that no recipe comes near 5,000.
        number = self.put_step(first_step)
        for entry in sifting.used:
            number = self.put_step(("then", number, entry.back_number))
        seat = self.first_sent(sifting.left)
        back_number = self.put_step(("back", number))
        fresh = Entry(seat, sifting.left, number, back_number)
        self.pages[seat][sifting.left[seat]] = fresh
        self.entries.append(fresh)

    def first_sent(self, seating):
        return min([seat for seat in self.resting if seating[seat] != seat])

    def fill(self):
        # The pages are whole when an entry and then one of its own or a later page is always told by
        # them: whatever stands in the wrong order can then be put into the right one. Entries stay as
        # they are, so each two are joined once in a room's life.
        while self.joined_so_far < len(self.entries):
            late = self.entries[self.joined_so_far]
            for place in range(self.joined_so_far + 1):
                early = self.entries[place]
                if early.seat <= late.seat:
                    self.join_entries(early, late)
                if late.seat <= early.seat:
                    self.join_entries(late, early)
            self.joined_so_far = self.joined_so_far + 1

    def join_entries(self, one, other):
        sifting = self.sift(joined(one.seating, other.seating))
        if sifting.left != self.resting:
            self.put_entry(sifting, ("then", one.step_number, other.step_number))

    def how_many(self):
        count = 1
        for page in self.pages:
            count = count * len(page)
        return count

    def recipe(self, seating):
        steps = list(self.steps)
        goal = 0
        # The sifting takes the first page off first; done one behind the other, it comes last.
        for entry in reversed(self.sift(seating).used):
            if goal == 0:
                goal = entry.step_number
            else:
                steps.append(("then", goal, entry.step_number))
                goal = len(steps) - 1
        return steps_to(steps, goal)

    def table(self):
        return [seatings_of_page(page) for page in self.pages]

    def numbered(self, number):
        # What the pages so far come to tells where each seat of the next page goes in the end, and so
        # the order of its entries; behind each stand as many as the further pages make.
        left = number
        behind = self.how_many()
        come_to = self.resting
        for page in self.pages:
            behind = behind // len(page)
            ends = sorted([come_to[goal] for goal in page])
            goal = come_to.index(ends[left // behind])
            left = left % behind
            come_to = joined(page[goal].seating, come_to)
        return come_to

    def number_of(self, seating):
        number = 0
        behind = self.how_many()
        come_to = self.resting
        for seat, page in enumerate(self.pages):
            behind = behind // len(page)
            lesser = [goal for goal in page if come_to[goal] < seating[seat]]
            number = number + behind * len(lesser)
            come_to = joined(page[come_to.index(seating[seat])].seating, come_to)
        return number
