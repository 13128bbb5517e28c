package expand

import "graftwood/api"

// word is what a parameter is told by: a name that a macro brought is another one than the same name elsewhere.
type word struct {
	name  string
	stamp int
}

func wordOf(d api.Datum) word {
	return word{name: d.Name, stamp: d.Stamp}
}

// parameters are those that are around, the last one the nearest, and where each word stands among them, rising.
type parameters struct {
	words []word
	at    map[word][]int
}

// index tells how many parameters are nearer than the nearest one that is so told.
func (p *parameters) index(w word) (nearer int, ok bool) {
	at := p.at[w]
	if len(at) == 0 {
		return 0, false
	}
	return len(p.words) - 1 - at[len(at)-1], true
}

func (p *parameters) enter(w word) {
	p.at[w] = append(p.at[w], len(p.words))
	p.words = append(p.words, w)
}

// enterAll takes the parameters of one procedure, from the first one on, and throws what is wrong with them.
func (p *parameters) enterAll(l []api.Datum) {
	for i, d := range l {
		must(d.Kind == api.DSym, api.ErrForm)
		nearer, ok := p.index(wordOf(d))
		must(!ok || nearer >= i, api.ErrName)
		p.enter(wordOf(d))
	}
}

// leave takes the nearest n away again.
func (p *parameters) leave(n int) {
	for range n {
		last := len(p.words) - 1
		w := p.words[last]
		p.at[w] = p.at[w][:len(p.at[w])-1]
		p.words = p.words[:last]
	}
}
