package link

import "graftwood/api"

// unitByUnit is what is wrong with l first, and with which of its units.
func unitByUnit(l []api.Unit, wrong func(number int) api.Errno) api.Fault {
	for i := range l {
		if err := wrong(i); err != api.OK {
			return api.Fault{Err: err, At: i}
		}
	}
	return api.Fault{}
}

// insByIns is what is wrong with the instructions of u first, procedure by procedure.
func insByIns(u *api.Unit, wrong func(in *api.Ins) api.Errno) api.Errno {
	for _, p := range u.Protos {
		for i := range p.Code {
			if err := wrong(&p.Code[i]); err != api.OK {
				return err
			}
		}
	}
	return api.OK
}
