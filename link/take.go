package link

import (
	"gemot/api"
	"gemot/term"
)

// takeAck has all up to a number not be open any more.
func (e *End) takeAck(number int) api.Errno {
	come := e.sent - e.open.Len()
	if number > e.sent {
		return api.ErrArg
	}
	if number <= come {
		return api.ErrOld
	}
	for range number - come {
		e.open.Pop()
	}
	return api.OK
}

// takeData replies whatever the error is: the ack of what came before may be lost, and the peer would send it again for ever.
func (e *End) takeData(number int, body term.Term) ([]term.Term, term.Term, api.Errno) {
	var bodies []term.Term
	wrong := e.wait(number, body)
	if wrong == api.OK {
		bodies = e.takeWaiting()
	}
	reply, _ := e.frame(AckKind, e.taken)
	return bodies, reply, wrong
}

func (e *End) wait(number int, body term.Term) api.Errno {
	if number <= e.taken {
		return api.ErrOld
	}
	if number > e.taken+Ahead {
		return api.ErrFull
	}
	if _, waits := e.waiting[number]; waits {
		return api.ErrOld
	}
	e.waiting[number] = early{body}
	return api.OK
}

// takeWaiting takes what waits, in order, up to the first one that lacks.
func (e *End) takeWaiting() []term.Term {
	var bodies []term.Term
taking:
	for {
		next, waits := e.waiting[e.taken+1]
		if !waits {
			break taking
		}
		e.taken++
		delete(e.waiting, e.taken)
		bodies = append(bodies, next.body)
	}
	return bodies
}
