package script

import (
	"strconv"
	"strings"

	"stencil/api"
	"stencil/dec"
	"stencil/enc"
	"stencil/text"
)

// player is a flyweight whose message is begun, and by which a script is played.
type player interface {
	begun() string          // what is told of the message's beginning
	play(c api.Call) string // carries a call out, and tells what came of it
	Done() bool
}

type writing struct{ *enc.Encoder }

func (w writing) begun() string { return "ok " + strconv.Itoa(w.End()) }

// play tells of a call that is taken what is told of the beginning: how far the message goes by now.
func (w writing) play(c api.Call) string {
	if err := w.Do(c); err != api.OK {
		return refused(err)
	}
	return w.begun()
}

type reading struct{ *dec.Decoder }

func (r reading) begun() string { return "ok " + strconv.Itoa(r.Acting()) }

func (r reading) play(c api.Call) string {
	told, err := r.Do(c)
	return Told(c, told, err)
}

// play tells a whole script.
func play(p player, script string) (told []string) {
	defer func() { told = append(told, last(p)) }()
	told = append(told, p.begun())
	calls := 0
	for line := range strings.SplitSeq(script, "\n") {
		if isPassedOver(line) {
			continue
		}
		if calls == api.MaxCalls {
			return append(told, refused(api.ErrDone))
		}
		calls++
		told = append(told, playLine(p, line))
	}
	return told
}

// isPassedOver is asked of what stands behind the last line's end, too: where nothing stands there, it is no line, and blank.
func isPassedOver(line string) bool {
	return text.Blank(line) || strings.HasPrefix(text.Trim(line), "#")
}

func playLine(p player, line string) string {
	c, err, _ := Parse(line)
	if err != api.OK {
		return refused(err)
	}
	return p.play(c)
}

func last(p player) string {
	if p.Done() {
		return "done"
	}
	return "open"
}
