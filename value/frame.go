package value

// Frame has the parameters of a call, the last one the nearest, and those around them. One without anything in it is around a body.
type Frame struct {
	params []Value
	count  int // of parameters, those around among them
	deep   int // how many frames are around
	around *Frame
	far    *Frame // one further out: by these few frames are gone through, however many there are
}

// With is the frame of a call with params, where f is around: f itself, if there are none, so that there is no frame to go through in vain.
func (f *Frame) With(params []Value) *Frame {
	if len(params) == 0 {
		return f
	}
	return &Frame{params: params, count: f.count + len(params), deep: f.deep + 1, around: f, far: f.leap()}
}

// leap is where the frame within f goes far: as far as f and where that goes do together, if both go as far as each other.
func (f *Frame) leap() *Frame {
	if f.deep == 0 || f.far.deep == 0 {
		return f
	}
	if f.deep-f.far.deep == f.far.deep-f.far.far.deep {
		return f.far.far
	}
	return f
}

// At is where the parameter is kept that so many are nearer than.
func (f *Frame) At(nearer int) *Value {
	place := f.count - 1 - nearer
	for place < f.around.count {
		if place < f.far.count {
			f = f.far
		} else {
			f = f.around
		}
	}
	return &f.params[place-f.around.count]
}
