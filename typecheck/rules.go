package typecheck

import "nursery/api"

const maxMethod = 99

// rule notes the errors of a statement that some rules find, in their order, and declares names.
type rule func(x *examiner, s api.Stmt)

// inOrder returns the rule that consists of some rules.
func inOrder(l ...rule) rule {
	return func(x *examiner, s api.Stmt) {
		for _, r := range l {
			r(x, s)
		}
	}
}

// allRules returns the rules of the statements by their kinds.
func allRules() map[int]rule {
	integers, condition := expressions(api.IntType), expressions(api.BoolType)
	return map[int]rule{
		api.LetStmt:        examineLet,
		api.AssignStmt:     examineAssignment,
		api.IfStmt:         condition,
		api.WhileStmt:      condition,
		api.RepeatStmt:     integers,
		api.ReturnStmt:     inOrder(mayReturn, integers),
		api.FailStmt:       integers,
		api.AssertStmt:     condition,
		api.EmitStmt:       integers,
		api.SleepStmt:      integers,
		api.YieldStmt:      inOrder(),
		api.CheckpointStmt: inOrder(),
		api.CancelStmt:     notInCleanup,
		api.ScopeStmt:      inOrder(notInCleanup, integers, examineScopeName),
		api.MaskStmt:       notInCleanup,
		api.SpawnStmt:      inOrder(notInCleanup, use(api.TaskProc), integers),
		api.CallStmt:       inOrder(notInCleanup, use(api.FuncProc), integers, names(api.IntType)),
		api.DeferStmt:      inOrder(notInCleanup, use(api.CleanupProc), integers),
		api.ObjectStmt:     byOperation(operationRules()),
		api.SelectStmt:     examineCases,
		api.AddStmt:        inOrder(isOnAtomic, integers, names(api.IntType)),
		api.SwapStmt:       inOrder(isOnAtomic, integers, names(api.BoolType)),
		api.BeginStmt:      inOrder(notInCleanup, hasMethod, integers),
		api.EndStmt:        inOrder(notInCleanup, integers),
	}
}

// byOperation returns the rule that applies the rules of the operation of a statement.
func byOperation(rules map[int]rule) rule {
	return func(x *examiner, s api.Stmt) {
		rules[s.Op](x, s)
	}
}

// operationRules returns the rules of the operations on objects.
func operationRules() map[int]rule {
	return map[int]rule{
		api.OpLock:         on(api.MutexKind),
		api.OpTryLock:      on(api.MutexKind, api.BoolType),
		api.OpUnlock:       on(api.MutexKind),
		api.OpReadLock:     on(api.RWLockKind),
		api.OpReadUnlock:   on(api.RWLockKind),
		api.OpWriteLock:    on(api.RWLockKind),
		api.OpWriteUnlock:  on(api.RWLockKind),
		api.OpWait:         on(api.CondKind),
		api.OpSignal:       on(api.CondKind),
		api.OpBroadcast:    on(api.CondKind),
		api.OpAcquire:      on(api.SemaphoreKind),
		api.OpTryAcquire:   on(api.SemaphoreKind, api.BoolType),
		api.OpRelease:      on(api.SemaphoreKind),
		api.OpArrive:       on(api.BarrierKind, api.IntType),
		api.OpSend:         on(api.ChannelKind),
		api.OpReceive:      on(api.ChannelKind, api.IntType, api.BoolType),
		api.OpCloseChannel: on(api.ChannelKind),
		api.OpPublish:      on(api.TopicKind),
		api.OpSubscribe:    on(api.TopicKind),
		api.OpNext:         on(api.TopicKind, api.IntType),
		api.OpUnsubscribe:  on(api.TopicKind),
		api.OpTake:         on(api.LimiterKind),
		api.OpComplete:     on(api.FutureKind),
		api.OpAwait:        on(api.FutureKind, api.IntType),
	}
}

// on returns the rules of an operation on objects of a kind, whose results have some types.
func on(kind int, types ...int) rule {
	isOnObject := func(x *examiner, s api.Stmt) { x.note(x.checkObject(s.Name, kind)) }
	return inOrder(isOnObject, expressions(api.IntType), names(types...))
}

// expressions returns the rule that all expressions have a type. Only a scope has zero expressions.
func expressions(typ int) rule {
	return func(x *examiner, s api.Stmt) {
		for _, e := range s.Exprs {
			if e.Kind != 0 {
				x.require(e, typ)
			}
		}
	}
}

// names returns the rules of the names behind as, which have some types.
func names(types ...int) rule {
	return func(x *examiner, s api.Stmt) { x.declareAll(s.Names, types) }
}

// use returns the rule that the Name is that of a procedure of a kind, with as many parameters as there are arguments.
func use(kind int) rule {
	return func(x *examiner, s api.Stmt) { x.note(x.checkUse(s, kind)) }
}

func notInCleanup(x *examiner, _ api.Stmt) {
	if x.kind == api.CleanupProc {
		x.note(api.ErrConflict)
	}
}

func mayReturn(x *examiner, _ api.Stmt) {
	if x.enclosed && x.kind != api.TaskProc {
		x.note(api.ErrState)
	}
}

func hasMethod(x *examiner, s api.Stmt) {
	if s.Exprs[0].Value > maxMethod {
		x.note(api.ErrRange)
	}
}

func isOnAtomic(x *examiner, s api.Stmt) {
	switch kind := x.kindOf(s.Name); {
	case !isVariable(kind):
		x.note(api.ErrNotFound)
	case kind != api.AtomicDecl:
		x.note(api.ErrKind)
	}
}

func examineLet(x *examiner, s api.Stmt) {
	if _, isLocal := x.locals[s.Name]; isLocal || x.kindOf(s.Name) != 0 {
		x.note(api.ErrExists)
	}
	typ, err := x.typeOf(s.Exprs[0])
	x.note(err)
	if err != api.OK {
		typ = api.IntType
	}
	x.note(x.declare(s.Name, typ))
}

func examineAssignment(x *examiner, s api.Stmt) {
	typ, isLocal := x.locals[s.Name]
	if !isLocal {
		typ = api.IntType
		if !isVariable(x.kindOf(s.Name)) {
			x.note(api.ErrNotFound)
		}
	}
	x.require(s.Exprs[0], typ)
}

func examineScopeName(x *examiner, s api.Stmt) {
	if s.Name != "" {
		x.declareAll([]string{s.Name}, []int{api.IntType})
	}
}

func examineCases(x *examiner, s api.Stmt) {
	for _, c := range s.Cases {
		if c.Kind != api.DefaultCase {
			x.note(x.checkObject(c.Name, api.ChannelKind))
		}
		if c.Kind == api.SendCase {
			x.require(c.Expr, api.IntType)
		}
		x.declareAll(c.Names, []int{api.IntType, api.BoolType})
	}
}
