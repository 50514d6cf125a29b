package jobs

import (
	"haymow/api"
	"haymow/code"
	"haymow/eval"
	"haymow/valid"
)

// submission is what a client hands in, and what it comes to on its way.
type submission struct {
	bytes   []byte
	args    []int64
	program []code.Func
	job     int
}

// ways is what a submission goes through: the first error on it counts, and
// only the last of them turns the machine.
func (r *Runtime) ways(s *submission) []func() api.Errno {
	return []func() api.Errno{
		func() api.Errno { return unless(!r.shut, api.ErrState) },
		func() (e api.Errno) {
			s.program, e = code.Read(s.bytes)
			return e
		},
		func() api.Errno {
			_, _, e := valid.Check(s.program)
			return unless(e == api.OK, api.ErrForm)
		},
		func() (e api.Errno) {
			// The program and the limits are right: ErrArg can only be told
			// of the arguments.
			s.job, e = r.machine.Begin(s.program, s.args, r.limits)
			return e
		},
	}
}

func unless(holds bool, e api.Errno) api.Errno {
	if holds {
		return api.OK
	}
	return e
}

// some: are the limits some? They are, if the least program may run with them.
func some(l eval.Limits) bool {
	least := []code.Func{{Code: []code.Instr{{Op: code.Named("ret")}}}}
	return eval.Right(least, nil, l)
}
