"""A machine of phrases, which finds the longest of them that stands at a place."""


# Makes the states on the phrase's way that are not there yet.
def state_behind(steps, phrase):
    state = 0
    for word in phrase:
        if word not in steps[state]:
            steps[state][word] = len(steps)
            steps.append({})
        state = steps[state][word]
    return state


# Phrases that begin alike share their first states, so each word of a row is looked up once, however many they are.
class Machine:
    def __init__(self, phrases):
        self.steps = [{}]
        self.ends = {}
        for phrase in phrases:
            self.ends[state_behind(self.steps, phrase)] = True

    def longest(self, words, at):
        # No phrase stands ahead of a row, but an index below 0 would be counted from the row's end.
        if at < 0:
            return 0
        state = 0
        length = 0
        for place in range(at, len(words)):
            if words[place] not in self.steps[state]:
                return length
            state = self.steps[state][words[place]]
            if state in self.ends:
                length = place - at + 1
        return length
