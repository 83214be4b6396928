package machine

import (
	"slices"

	"sakia/api"
	"sakia/link"
	"sakia/plan"
	"sakia/sgd"
)

// allDeeds returns what the machine does for each kind of items.
func (m *Machine) allDeeds() [plan.Record + 1]deed {
	return [plan.Record + 1]deed{
		plan.Compute: {always, m.compute},
		plan.Launch:  {always, m.launch},
		plan.Send:    {hasRoom, m.send},
		plan.Receive: {hasMessage, m.receive},
		plan.Update:  {always, m.update},
		plan.Record:  {always, m.record},
	}
}

func always(plan.Item, *link.Link, *link.Link) bool {
	return true
}

// hasRoom reports whether a message can be sent.
func hasRoom(_ plan.Item, _, out *link.Link) bool {
	return out.Len() < out.Cap()
}

// hasMessage reports whether the message of an item can be received.
func hasMessage(x plan.Item, in, _ *link.Link) bool {
	t, ok := in.Peek()
	return ok && t == x.Action.Tag
}

// add adds numbers to others in place.
func add(total, l []int64) {
	for i := range min(len(total), len(l)) {
		total[i] += l[i]
	}
}

// compute adds the gradient of a micro-batch.
func (m *Machine) compute(x plan.Item, _, _ *link.Link) api.Code {
	for _, i := range m.batches.Micro(x.Step, m.worker, m.workers, x.N, m.micros) {
		e := m.examples[i]
		g, _ := m.network.Gradient(e.X, e.Y)
		add(m.gradient, g)
	}
	return api.OK
}

// launch opens a bucket.
func (m *Machine) launch(x plan.Item, _, _ *link.Link) api.Code {
	m.open = append(m.open, x.N)
	return api.OK
}

// send sends a part of the gradient.
func (m *Machine) send(x plan.Item, _, out *link.Link) api.Code {
	at := x.Action.At
	return out.Send(api.Message{Tag: x.Action.Tag, Values: m.gradient[at.Lo:at.Hi]})
}

// receive adds what was received to a part of the gradient, or replaces it.
func (m *Machine) receive(x plan.Item, in, _ *link.Link) api.Code {
	message, code := in.Receive(x.Action.Tag)
	if code != api.OK {
		return code
	}
	part := m.gradient[x.Action.At.Lo:x.Action.At.Hi]
	if x.Action.Add {
		add(part, message.Values)
	} else {
		copy(part, message.Values)
	}
	return api.OK
}

// update applies the rule to a bucket, and closes it.
func (m *Machine) update(x plan.Item, _, _ *link.Link) api.Code {
	at := m.buckets[x.N]
	m.rule.Apply(m.state, at, m.gradient[at.Lo:at.Hi])
	m.open = slices.DeleteFunc(m.open, func(j int) bool { return j == x.N })
	return api.OK
}

// record adds the state to the trajectory, and begins the next gradient.
func (m *Machine) record(plan.Item, *link.Link, *link.Link) api.Code {
	m.trajectory = append(m.trajectory, sgd.Clone(m.state))
	clear(m.gradient)
	return api.OK
}
