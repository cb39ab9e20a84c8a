package syntax

import "majordomo/api"

// refused is panicked with where words stop being the beginning of any manifest: at is the first one with which they do.
type refused struct{ at int }

// caught is where and by what error words are refused that a panic came of.
func caught(x any) (int, api.Errno) {
	switch x := x.(type) {
	case refused:
		return x.at, api.ErrSyntax
	default: // a fault that nobody foresaw comes of words that nobody foresaw
		return 0, api.ErrSyntax
	}
}

// parser reads words from the at-th on. What reads a symbol of the grammar answers the number of its node. It looks no further than one word ahead, and takes none with which there is no manifest, so that the first one it can't take is the one to be told.
type parser struct {
	words []api.Word
	at    int
	nodes []api.Tree
}

// node lays a node; those below it are laid already, as they end ahead of it.
func (p *parser) node(kind int, text string, below ...int) int {
	p.nodes = append(p.nodes, api.Tree{Kind: kind, Text: text, L: below})
	return len(p.nodes) - 1
}

// word is the next word, of no kind behind the last one.
func (p *parser) word() api.Word {
	if p.at == len(p.words) {
		return api.Word{}
	}
	return p.words[p.at]
}

// refuse answers a number only so that it can stand for what reads a symbol.
func (p *parser) refuse() int { panic(refused{p.at}) }

// take takes a word of this kind, whatever its text is.
func (p *parser) take(kind int) string {
	w := p.word()
	if w.Kind != kind {
		p.refuse()
	}
	p.at++
	return w.Text
}

// took takes this very word if it is the next one.
func (p *parser) took(kind int, text string) bool {
	w := p.word()
	if w.Kind != kind || w.Text != text {
		return false
	}
	p.at++
	return true
}

// sign takes this sign.
func (p *parser) sign(text string) {
	if !p.took(api.WordSign, text) {
		p.refuse()
	}
}

// listed is parts with commas between them, if any, and the sign behind them.
func (p *parser) listed(part func() int, end string) []int {
	var l []int
	for !p.took(api.WordSign, end) {
		if len(l) > 0 {
			p.sign(",")
		}
		l = append(l, part())
	}
	return l
}
