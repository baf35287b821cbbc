package trace

import "millrace/api"

// writer puts a text together.
type writer struct{ text []byte }

// long is whether the text is longer than one may be.
func (w *writer) long() bool { return len(w.text) > api.MaxText }

// add writes s, but for what comes behind a text that is too long already: nobody will see that, however much it is.
func (w *writer) add(s string) {
	if !w.long() {
		w.text = append(w.text, s...)
	}
}

func (w *writer) setup(c api.Conf) {
	w.add(beginning)
	w.words(ofSetup(&c))
	for _, n := range c.Nodes {
		w.parts(ofNode(&n))
	}
	w.add("\n")
}

func (w *writer) call(x api.Call) {
	w.add((*whole)(&x.Reading).word() + " " + calls[x.Kind])
	w.words(ofCall(&x))
	w.add("\n")
}

// told writes what a call of that kind was told.
func (w *writer) told(kind int, t api.Told) {
	if t.Err != api.OK {
		w.add(refusal)
		w.words(ofRefusal(&t))
	} else {
		w.add(answers[kind])
		w.words(ofAnswer(kind, &t))
	}
	for _, p := range t.Packets {
		w.parts(ofPacket(&p))
	}
	for _, d := range t.Left {
		w.parts(ofDeparture(&d))
	}
	w.add("\n")
}

// words writes each field as a word.
func (w *writer) words(l []field) {
	for _, f := range l {
		w.add(" " + f.word())
	}
}

// parts writes all the fields as one word.
func (w *writer) parts(l []field) {
	mark := " "
	for _, f := range l {
		w.add(mark + f.word())
		mark = "/"
	}
}
