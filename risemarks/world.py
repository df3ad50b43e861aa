"""A world: hands, a lender and a post, in which deeds are done one behind another."""

from risemarks.deeds import is_deed, names_of
from risemarks.errors import BadDeed, NoHand
from risemarks.hands import Hand
from risemarks.lender import Lender
from risemarks.letters import for_whom
from risemarks.post import Post


class World:
    def __init__(self, settings, names):
        self.settings = settings
        self.names = list(names)
        self.hands = {}
        for name in names:
            self.hands[name] = Hand(name, settings)
        self.lender = Lender(settings)
        self.post = Post()
        self.past = []

    def hand_called(self, name):
        if name not in self.hands:
            raise NoHand(name)
        return self.hands[name]

    def read_letter(self, number):
        letter = self.post.letter(number)
        name = for_whom(letter)
        if name != "":
            return self.post.carry(number, self.hand_called(name), None)
        told = self.post.carry(number, None, self.lender)
        # The lender's answer to an ask goes by post, too.
        return self.post.send(told) if letter[0] == "ask" else told

    def give_back(self, hand):
        told = hand.give_back()
        return self.post.send(("back", hand.name, told[0], told[1]))

    def answer_to(self, deed):
        if deed[0] == "carry":
            return self.read_letter(deed[1])
        hand = self.hand_called(deed[1])
        if deed[0] == "ask":
            return self.post.send(("ask", hand.name, hand.tell()))
        if deed[0] == "write":
            return hand.write(deed[2])
        if deed[0] == "make":
            return hand.make(deed[2])
        if deed[0] == "news":
            return self.post.send(("news", hand.name, deed[2], hand.tell()))
        if deed[0] == "back":
            return self.give_back(hand)
        return hand.fall() if deed[0] == "fall" else hand.rise()

    def do(self, deed):
        if not is_deed(deed):
            raise BadDeed("this is no deed")
        for name in names_of(deed):
            self.hand_called(name)
        answer = self.answer_to(deed)
        self.past.append((deed, answer))
        return answer

    def marks(self):
        return [(answer, deed[1]) for deed, answer in self.past if deed[0] == "make"]

    def journal(self):
        return list(self.past)

    def grants(self):
        return self.lender.grants()

    def letters(self):
        return self.post.sent()

    def hand_at(self, name):
        hand = self.hand_called(name)
        return (hand.place(), hand.note())
