"""Reads a line of calls, number by number."""


class Reader:
    def __init__(self, numbers):
        self.numbers = numbers
        self.place = 0

    def is_at_end(self):
        return self.place >= len(self.numbers)

    def take_number(self):
        number = self.numbers[self.place]
        self.place += 1
        return number

    # Lists of their own, so that what was handed in is never kept or changed.
    def take_numbers(self, how_many):
        start = self.place
        self.place = start + how_many
        return self.numbers[start:self.place]

    def take_list(self):
        return self.take_numbers(self.take_number())

    def take_lists(self, how_many):
        lists = []
        while len(lists) < how_many:
            lists.append(self.take_list())
        return lists
