package request

import "parlour/api"

// row is a kind of request: its name, and the pair that writes and reads its fields.
type row struct {
	kind  int
	name  string
	write func(*writer)
	read  func(*reader)
}

// rows is each kind's one row.
func rows() [api.ExitSignal]row {
	return [...]row{
		{api.PtyReq, "pty-req", (*writer).putTerminal, (*reader).getTerminal},
		{api.Env, "env", (*writer).putVariable, (*reader).getVariable},
		{api.Shell, "shell", (*writer).putNothing, (*reader).getNothing},
		{api.Exec, "exec", (*writer).putCommand, (*reader).getText},
		{api.Subsystem, "subsystem", (*writer).putName, (*reader).getText},
		{api.WindowChange, "window-change", (*writer).putSize, (*reader).getSize},
		{api.XonXoff, "xon-xoff", (*writer).putOn, (*reader).getOn},
		{api.Signal, "signal", (*writer).putName, (*reader).getText},
		{api.ExitStatus, "exit-status", (*writer).putCode, (*reader).getCode},
		{api.ExitSignal, "exit-signal", (*writer).putEnd, (*reader).getEnd},
	}
}

// rowOf is a kind's row, if there is such a kind.
func rowOf(kind int) (row, bool) {
	for _, r := range rows() {
		if r.kind == kind {
			return r, true
		}
	}
	return row{}, false
}

// rowNamed is the row of the kind of that name, if there is one.
func rowNamed(name string) (row, bool) {
	for _, r := range rows() {
		if r.name == name {
			return r, true
		}
	}
	return row{}, false
}

// fieldKinds is the kinds of a row's fields, which are those that it writes of any request.
func (r row) fieldKinds() []int {
	var w writer
	r.write(&w)
	var kinds []int
	for _, f := range w.fields {
		kinds = append(kinds, f.Kind)
	}
	return kinds
}
