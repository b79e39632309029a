package walk

import (
	"errors"

	"satchel/api"
	"satchel/fault"
)

// What a mirror's reply means for the walk.
var (
	errAgain   = errors.New("the reply was cut off, or put off")
	errMissing = errors.New("the mirror has it not")
	errWrong   = errors.New("a status that helps nobody")
	errBroken  = errors.New("a reply that makes no sense")
	errRest    = errors.New("not the rest that was asked for")
)

// Statuses of replies with a body.
const (
	whole = 200
	part  = 206
)

// Goal is what is walked for.
type Goal struct {
	Path string
	// Judge tells nil of a good body, a fault of ErrSum of a wrong one, another error of one without sense.
	Judge func(body string) error
	// Left is what there is of the body already. Keep is told each other leftover that comes to be;
	// a goal without it keeps none.
	Left Leftover
	Keep func(Leftover)
}

// take tells the whole body that a reply brings, or why it brings none.
func (g *Goal) take(mirror string, r api.Reply) (string, error) {
	switch {
	case r.Status == part:
		return g.join(mirror, r)
	case r.Class == api.Done:
		return r.Body, nil
	case r.Class == api.Missing:
		return "", errMissing
	case r.Class == api.Wrong:
		return "", errWrong
	case r.Class == api.Again:
		g.note(mirror, r)
		return "", errAgain
	}
	return "", errBroken
}

// note keeps what came of a whole body, if its rest can be asked for.
func (g *Goal) note(mirror string, r api.Reply) {
	if r.Status == whole && r.Tag != "" && r.Body != "" {
		g.keep(Leftover{Mirror: mirror, Tag: r.Tag, Bytes: r.Body})
	}
}

// join puts a part behind the leftover.
func (g *Goal) join(mirror string, r api.Reply) (string, error) {
	if !g.fits(mirror, r) {
		return "", fault.Of(errBroken, errRest)
	}
	joined := g.Left.Bytes + r.Body
	if r.Class == api.Part && len(joined) == r.Total {
		return joined, nil
	}
	g.keep(Leftover{Mirror: mirror, Tag: r.Tag, Bytes: joined})
	return "", errAgain
}

// fits tells whether the reply has what is behind the leftover: a part that was cut off may have more than there is.
func (g *Goal) fits(mirror string, r api.Reply) bool {
	return g.asksRest(mirror) && r.Tag == g.Left.Tag && r.From == len(g.Left.Bytes) && r.Total >= len(g.Left.Bytes)+len(r.Body)
}

// asksRest is false of every mirror, if there is no leftover.
func (g *Goal) asksRest(mirror string) bool { return g.Left.Mirror == mirror }

func (g *Goal) keep(l Leftover) {
	if g.Keep == nil || l == g.Left {
		return
	}
	g.Left = l
	g.Keep(l)
}

// judge tells nil of a body with which the walk is at its end.
func (g *Goal) judge(body string) error {
	err := g.Judge(body)
	if err == nil || errors.Is(err, ErrSum) {
		return err
	}
	return fault.Of(errBroken, err)
}
