package live

import (
	"errors"

	"surcingle/api"
	"surcingle/diff"
	"surcingle/subs"
)

// mostQueues is how many queues there are at most.
const mostQueues = 100

// refuse tells the errors that are ahead of all others of a call.
func (s *Shared) refuse(c api.Call) error {
	if c.Op < api.Insert || c.Op > api.Close {
		return api.ErrArg
	}
	if s.closed && !s.leftOver(c) {
		return api.ErrClosed
	}
	return nil
}

// leftOver tells whether a call drains what a queue still holds, as may be done of a closed document. A queue with a gap holds messages, so that its Whole is told, too.
func (s *Shared) leftOver(c api.Call) bool {
	if c.Op != api.Drain {
		return false
	}
	q, err := s.queue(c.N)
	return err == nil && q.Len() > 0
}

// reply does a call that isn't refused. Beside an error, the reply says nothing.
func (s *Shared) reply(c api.Call) (api.Reply, error) {
	var told api.Reply
	var err error
	switch c.Op {
	case api.Insert, api.Delete, api.Remote:
		err = s.change(c)
	case api.Subscribe:
		told.Sub, err = s.subscribe()
		// The changes that the queue will be pushed go on from the text now.
		fallthrough
	case api.Snapshot:
		told.Text = s.doc.Text()
	case api.Vector:
		told.Clocks = s.doc.Vector()
	case api.Drain:
		told.Messages, err = s.drain(c.N)
	case api.Close:
		err = s.close()
	}
	told.Version = s.doc.Version()
	return told, err
}

// change does a call that may change the text, and pushes the change.
func (s *Shared) change(c api.Call) error {
	if len(s.queues) == 0 {
		// Texts take long to tell, and nobody asks for the change.
		return s.edit(c)
	}
	before := s.doc.Text()
	if err := s.edit(c); err != nil {
		return err
	}
	if e, differ := diff.Of(before, s.doc.Text()); differ {
		s.push(api.Message{Version: s.doc.Version(), Edit: e})
	}
	return nil
}

// edit does such a call on the document alone.
func (s *Shared) edit(c api.Call) error {
	var err error
	switch c.Op {
	case api.Insert:
		_, err = s.doc.Insert(c.At, c.Text)
	case api.Delete:
		_, err = s.doc.Delete(c.At, c.N)
	case api.Remote:
		_, err = s.doc.Apply(c.Bytes)
	}
	return err
}

// push pushes a message to each queue. One without room has a gap then, which its Drain tells.
func (s *Shared) push(m api.Message) {
	for _, q := range s.queues {
		q.Push(m)
	}
}

// subscribe makes a queue, and tells its number.
func (s *Shared) subscribe() (int, error) {
	if len(s.queues) == mostQueues {
		return 0, api.ErrFull
	}
	q, err := subs.New(s.room)
	if err != nil {
		return 0, err
	}
	s.queues = append(s.queues, q)
	return len(s.queues), nil
}

// drain tells what the queue of a number drains.
func (s *Shared) drain(n int) ([]api.Message, error) {
	q, err := s.queue(n)
	if err != nil {
		return nil, err
	}
	return q.Drain(s.doc.Version(), s.doc.Text()), nil
}

// queue tells the queue of a number.
func (s *Shared) queue(n int) (*subs.Queue, error) {
	if n < 1 || n > len(s.queues) {
		return nil, api.ErrRange
	}
	return s.queues[n-1], nil
}

// close closes the document.
func (s *Shared) close() error {
	if err := s.doc.Close(); err != nil {
		return err
	}
	s.closed = true
	return nil
}

// fault tells the number of an error's Code, and nothing else.
func fault(err error) api.Reply {
	var code api.Code
	errors.As(err, &code)
	return api.Reply{Code: int(code)}
}
