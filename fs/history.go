package fs

import (
	"slices"

	"commons/api"
	"commons/server"
)

// event is a call, and what its place in the order depends on.
type event struct {
	api.Event
	kept int  // the moment of a mark
	took bool // a Took mentioned it
}

// key is a client with a call's number.
type key struct {
	client, id int
}

// history is what happened, in moments.
type history struct {
	moment  int
	events  []*event
	current []*event       // of the nodes: calls that are not answered
	byId    map[key]*event // the calls that have a number
	dropped [][]int        // of the nodes: moments
}

func newHistory(nodes int) *history {
	return &history{current: make([]*event, nodes), byId: map[key]*event{}, dropped: make([][]int, nodes)}
}

// list returns all events in memory of their own.
func (h *history) list() []api.Event {
	var l []api.Event
	for _, e := range h.events {
		x := e.Event
		x.Reply.Names = slices.Clone(x.Reply.Names)
		l = append(l, x)
	}
	return l
}

// next begins a moment.
func (h *history) next() int {
	h.moment++
	return h.moment
}

// ask adds the event of a call that is asked now.
func (h *history) ask(client int, call api.Call) {
	e := &event{Event: api.Event{Client: client, Number: len(h.events) + 1, Call: call, Asked: h.next()}}
	h.events = append(h.events, e)
	h.current[client] = e
}

// identify notes the number of a client's call.
func (h *history) identify(client, id int) {
	if e := h.current[client]; e != nil && id != 0 {
		h.byId[key{client, id}] = e
	}
}

// answer answers a client's call.
func (h *history) answer(client int, r api.Reply) {
	e := h.current[client]
	if e == nil {
		return
	}
	if e.Done == 0 {
		e.Done = h.next()
	}
	e.Told, e.Reply = h.next(), r
	h.current[client] = nil
}

// mark evaluates a mark of the server.
func (h *history) mark(m server.Mark) {
	now := h.next()
	if m.Client >= len(h.current) {
		return
	}
	switch {
	case m.Read:
		if e := h.current[m.Client]; e != nil && e.Call.Kind == api.Read {
			e.Done = now
		}
	case m.Fresh:
		if m.Errno == api.OK {
			h.dropped[m.Client] = append(h.dropped[m.Client], now)
		}
	default:
		if e := h.byId[key{m.Client, m.Id}]; e != nil {
			e.mark(m, now)
		}
	}
}

// mark lets an event take effect by a mark.
func (e *event) mark(m server.Mark, now int) {
	if e.Told == 0 && (e.Call.Kind == api.List || e.Call.Kind == api.Stat) {
		e.Done = 0
	}
	if e.kept == 0 || e.Done == 0 && !m.Took {
		e.kept = now
	}
	if e.Done == 0 {
		e.Done, e.Reply.Errno = e.kept, m.Errno
	}
	e.took = e.took || m.Took
}

// lose lets the effects be open that a crash of the server may have undone.
func (h *history) lose() {
	for _, e := range h.events {
		if (e.Call.Kind == api.Write || e.Call.Kind == api.Trunc) && e.Told == 0 && !e.took {
			e.Done = 0
		}
	}
}

// abandon lets a client's call never be answered.
func (h *history) abandon(client int) {
	h.current[client] = nil
}
