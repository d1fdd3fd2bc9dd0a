package world

// halt is the panic with which a process ends that is stopped.
type halt struct{}

// coroutine makes two closures of a process: one runs it on, up to its next rest; the other one stops it where it rests.
//
// The process stands on a goroutine of its own, but it runs only while one of the two waits for it: so there is always just one that runs. It must be stopped, unless it is over.
func coroutine(body func(rest func())) (pull, stop func()) {
	turns := make(chan bool)     // shall it run on?
	rests := make(chan struct{}) // it rests; closed: it is over
	over, fault := false, any(nil)
	rest := func() {
		rests <- struct{}{}
		if !<-turns {
			panic(halt{})
		}
	}
	go func() {
		defer close(rests)
		defer func() {
			end := recover()
			if _, stopped := end.(halt); !stopped {
				fault = end
			}
		}()
		if <-turns {
			body(rest)
		}
	}()
	hand := func(on bool) {
		if over {
			return
		}
		turns <- on
		_, resting := <-rests
		over = !resting
		if fault != nil {
			panic(fault) // whoever pulls is to know of it
		}
	}
	return func() { hand(true) }, func() { hand(false) }
}
