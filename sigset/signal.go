package sigset

import "parlour/api"

// signal is what there is to say of a signal: its name, what becomes by itself of a process that gets it, and whether a client may name it.
type signal struct {
	name   string
	effect int
	wire   bool
}

// signals is what there is to say of each, by its number. Where a number has no name, there is no such signal.
var signals = [...]signal{
	api.SIGHUP:   {"HUP", Dies, true},
	api.SIGINT:   {"INT", Dies, true},
	api.SIGQUIT:  {"QUIT", DiesCore, true},
	api.SIGILL:   {"ILL", DiesCore, true},
	api.SIGTRAP:  {"TRAP", DiesCore, false},
	api.SIGABRT:  {"ABRT", DiesCore, true},
	api.SIGBUS:   {"BUS", DiesCore, false},
	api.SIGFPE:   {"FPE", DiesCore, true},
	api.SIGKILL:  {"KILL", Dies, true},
	api.SIGUSR1:  {"USR1", Dies, true},
	api.SIGSEGV:  {"SEGV", DiesCore, true},
	api.SIGUSR2:  {"USR2", Dies, true},
	api.SIGPIPE:  {"PIPE", Dies, true},
	api.SIGALRM:  {"ALRM", Dies, true},
	api.SIGTERM:  {"TERM", Dies, true},
	api.SIGCHLD:  {"CHLD", Nothing, false},
	api.SIGCONT:  {"CONT", Continues, false},
	api.SIGSTOP:  {"STOP", Stops, false},
	api.SIGTSTP:  {"TSTP", Stops, false},
	api.SIGTTIN:  {"TTIN", Stops, false},
	api.SIGTTOU:  {"TTOU", Stops, false},
	api.SIGWINCH: {"WINCH", Nothing, false},
}

// isSignal says whether a number is a signal.
func isSignal(sig int) bool { return sig >= 0 && sig < len(signals) && signals[sig].name != "" }

// isFixed says whether what a signal does can't be changed.
func isFixed(sig int) bool { return sig == api.SIGKILL || sig == api.SIGSTOP }

// bit is where a signal stands in a set: nowhere, if there is no such signal.
func bit(sig int) Set {
	if !isSignal(sig) {
		return 0
	}
	return 1 << sig
}

// changed is a set to which that was done with each of some signals.
func changed(s Set, change func(s Set, sig int) Set, sigs ...int) Set {
	for _, sig := range sigs {
		s = change(s, sig)
	}
	return s
}
