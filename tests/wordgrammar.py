"""Which words can stand where in the lines of systems and runs, word by word."""

import re

NUMBER = '(?:0|[1-9][0-9]{0,59})'
NAME = '[a-z]{1,8}'
ROW = f'{NAME}:{NUMBER}:{NUMBER}:{NUMBER}'
FORMS = {
    'name': NAME, 'number': NUMBER, 'code': '[01]', 'forked': f'-|{NAME}', 'names': f'-|{NAME}(?:,{NAME})*',
    'targets': f'{NUMBER}(?:,{NUMBER})*', 'rows': f'-|{ROW}(?:,{ROW})*', 'pool': f'-|{NUMBER}',
}
LINES = {
    'kind': 'name names', 'go': 'targets', 'fork': 'name name forked number', 'wait': 'rows pool number names',
    'poll': 'rows pool number number names', 'kill': 'name number', 'release': 'name number', 'exit': 'code',
}


def can_stand(form, word, before):
    if not re.fullmatch(FORMS[form], word):
        return False
    if form == 'pool':
        return word != '-' or before[-1] != '-'
    parts = word.split(',')
    if form == 'targets':
        parts = [int(part) for part in parts]
    if form == 'rows':
        parts = [part.partition(':')[0] for part in parts]
    return form not in ('targets', 'rows', 'names') or parts == sorted(set(parts))


def first_wrong(words):
    """The first word of a line that cannot stand, or how many there are if one is missing; None if all is right."""
    if words[0] not in LINES:
        return 0
    forms = LINES[words[0]].split()
    for k, word in enumerate(words[1:]):
        if k >= len(forms) or not can_stand(forms[k], word, words[:k + 1]):
            return k + 1
    return len(words) if len(words) <= len(forms) else None


def wrong_line(text):
    """Line and field of what cannot stand in the text of a system, None if all lines can."""
    lines = text.split('\n')
    before = None
    for k, line in enumerate(lines):
        words = line.split(' ')
        if (words[0] != 'kind' and k == 0) or (words[0] == 'kind' and before == 'kind'):
            return (k, 0)
        field = first_wrong(words)
        if field is not None:
            return (k, field)
        before = words[0]
    return (len(lines), 0) if before == 'kind' else None


def wrong_step(words):
    """The first word of a step that cannot stand, or how many there are if one is missing; None if all is right."""
    if not re.fullmatch(NUMBER, words[0]):
        return 0
    if len(words) < 2 or words[1] not in ('go', 'fork', 'take', 'none', 'later', 'kill', 'release', 'exit'):
        return 1
    if words[1] in ('go', 'take') and (len(words) < 3 or not re.fullmatch(NUMBER, words[2])):
        return 2
    many = 3 if words[1] in ('go', 'take') else 2
    return many if len(words) > many else None


def mangled(rng, text):
    """A text with a few words or lines changed."""
    spare = ['', '-', 'a', 'kind', 'exit', 'go', '0', '1', '00', '01', '9' * 60, '1' + '0' * 60, '-1', 'A', '0,1', '1,0',
             'a,b', 'b,a', 'a:0:0:0', 'a:0:0:0,b:1:1:1', 'b:0:0:0,a:0:0:0', 'a:0:0', 'a:0:0:0:0', ',', 'a,', ':', 'wait',
             'poll', 'fork', 'lib', 'take', 'later', '2', '+1', '1 ', 'abcdefghi', '\n', 'x\ny', 'kind\n', '\nkind', '0\n']
    for _ in range(rng.choice((1, 1, 1, 2))):
        lines = [line.split(' ') for line in text.split('\n')]
        k = rng.randrange(len(lines))
        words = lines[k]
        w = rng.randrange(len(words))
        change = rng.randrange(9)
        if change == 0:
            words[w] = rng.choice(spare)
        elif change == 1:
            del words[w]
        elif change == 2:
            words.insert(w, words[w])
        elif change == 3:
            words.insert(rng.randrange(len(words) + 1), rng.choice(spare))
        elif change == 4:
            v = rng.randrange(len(words))
            words[w], words[v] = words[v], words[w]
        elif change == 5:
            lines.insert(rng.randrange(len(lines) + 1), rng.choice([[''], lines[rng.randrange(len(lines))], ['kind', 'q', '-']]))
        elif change == 6:
            del lines[k]
        elif change == 7:
            m = rng.randrange(len(lines))
            lines[k], lines[m] = lines[m], lines[k]
        else:
            word = words[w]
            at = rng.randrange(len(word) + 1)
            words[w] = word[:at] + rng.choice('a0,:- \n') + word[at + rng.randrange(2):]
        text = '\n'.join(' '.join(words) for words in lines)
    return text
