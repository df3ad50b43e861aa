"""The post: letters that were sent, to be read late, never or often."""

from risemarks.errors import NoLetter


class Post:
    def __init__(self):
        self.posted = []

    def send(self, letter):
        self.posted.append(letter)
        return len(self.posted)

    def letter(self, number):
        if number < 1 or number > len(self.posted):
            raise NoLetter(number)
        return self.posted[number - 1]

    def sent(self):
        return list(self.posted)

    def carry(self, number, hand, lender):
        letter = self.letter(number)
        if letter[0] == "ask":
            lent = lender.lend(letter[1], letter[2])
            return ("grant", letter[1], lent[0], lent[1])
        if letter[0] == "grant":
            return hand.take(letter[2], letter[3])
        if letter[0] == "back":
            return lender.free(letter[2], letter[3])
        return hand.hear(letter[3])
