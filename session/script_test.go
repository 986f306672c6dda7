package session_test

import (
	"fmt"
	"slices"
	"strconv"
	"strings"
	"testing"

	"provost/api"
	"provost/session"
)

// call is one call of a Table: its word, with what is given to it. What Expire is given is id.
type call struct {
	word    string
	id, seq int64
	r       api.Reply
}

// String tells the call in ASCII, with no more of a text than can be read.
func (c call) String() string {
	return fmt.Sprintf("%s %d %d %.100s", c.word, c.id, c.seq, show(c.r))
}

// on makes the call, and tells what it answers.
func (c call) on(t table) string {
	switch c.word {
	case "tick":
		t.Tick()
		return ""
	case "register":
		id, e := t.Register()
		return said(id, e)
	case "check":
		verdict, r := t.Check(c.id, c.seq)
		return strings.TrimSpace(verdictWord(verdict) + " " + show(r))
	case "done":
		return word(t.Done(c.id, c.seq, c.r))
	case "expire":
		return fmt.Sprint(t.Expire(c.id))
	}
	panic("no call: " + c.word)
}

// said tells a number, or an error; both of them only where there are both.
func said(n int64, e api.Errno) string {
	switch {
	case e == api.OK:
		return fmt.Sprint(n)
	case n == 0:
		return word(e)
	}
	return fmt.Sprint(n, " ", word(e))
}

// verdictWord is the word that scripts have for a verdict.
func verdictWord(verdict int) string {
	switch verdict {
	case session.New:
		return "New"
	case session.Again:
		return "Again"
	case session.Gone:
		return "Gone"
	case session.Past:
		return "Past"
	}
	return "verdict " + strconv.Itoa(verdict)
}

// word is the word that scripts have for an error.
func word(e api.Errno) string {
	switch e {
	case api.OK:
		return ""
	case api.ErrMany:
		return "Many"
	case api.ErrForm:
		return "Form"
	case api.ErrSession:
		return "Session"
	case api.ErrSeq:
		return "Seq"
	}
	return "error " + strconv.Itoa(int(e))
}

// show tells a reply: those of its fields that aren't zero.
func show(r api.Reply) string {
	var l []string
	if r.E != 0 {
		l = append(l, word(r.E))
	}
	if r.S != "" {
		l = append(l, strconv.QuoteToASCII(r.S))
	}
	if r.V != (api.Vec{}) {
		l = append(l, fmt.Sprint(r.V))
	}
	if r.N != 0 {
		l = append(l, fmt.Sprint(r.N))
	}
	return strings.Join(l, " ")
}

// play is a Table with its second account, which are given the same calls.
type play struct {
	t    *testing.T
	what string
	s    *session.Table
	a    *account
}

func newPlay(t *testing.T, what string) *play {
	return &play{t: t, what: what, s: session.Empty(), a: newAccount()}
}

// loadPlay begins at what a text tells.
func loadPlay(t *testing.T, what, text string) *play {
	t.Helper()
	a, may := loadable(text)
	s, e := session.Load(text)
	if !may || e != api.OK {
		t.Fatalf("%s: %x: %d, %t", what, text, e, may)
	}
	return &play{t: t, what: what, s: s, a: a}
}

// do makes a call on both, and on what is loaded of what was saved ahead of it, and checks that all come to the same.
func (p *play) do(c call) string {
	p.t.Helper()
	loaded, e := session.Load(p.s.Save())
	if e != api.OK {
		p.t.Fatalf("%s: at %v: loaded: %d", p.what, c, e)
	}
	want := c.on(p.a)
	for _, s := range []*session.Table{p.s, loaded} {
		if got := c.on(s); got != want {
			p.t.Fatalf("%s: at %v: %.200s, not %.200s", p.what, c, got, want)
		}
		same(p.t, fmt.Sprint(p.what, ": behind ", c), s, p.a)
	}
	return want
}

// same checks what is told of a whole Table.
func same(t *testing.T, what string, s table, a *account) {
	t.Helper()
	if got, want := s.Sessions(), a.Sessions(); !slices.Equal(got, want) {
		t.Fatalf("%s: sessions %d, not %d", what, got, want)
	}
	if got, want := s.Save(), a.Save(); got != want {
		t.Fatalf("%s: saved %.400x, not %.400x", what, got, want)
	}
}

// callOf reads a call: its word and its numbers. Of "done 1 2 5" the reply has N 5; one told as "-" can't be packed.
func callOf(line string) call {
	w := strings.Fields(line)
	c := call{word: w[0]}
	for k, s := range w[1:] {
		if s == "-" {
			c.r.E = -1
			continue
		}
		n, err := strconv.ParseInt(s, 10, 64)
		if err != nil {
			panic("no call: " + line)
		}
		*[]*int64{&c.id, &c.seq, &c.r.N}[k] = n
	}
	return c
}

// run makes the calls of a script, and checks what each answers, which is told behind a colon: nothing for Tick and
// for an OK of Done.
func (p *play) run(script string) {
	p.t.Helper()
	for _, line := range strings.Split(script, ";") {
		line, want, _ := strings.Cut(line, ":")
		if got := p.do(callOf(line)); got != strings.TrimSpace(want) {
			p.t.Errorf("%s: %s: %s, not %s", p.what, line, got, want)
		}
	}
}
