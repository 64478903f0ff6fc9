package once

import "sync"

// Lazy is a value that is made when it is first asked for.
type Lazy[T any] struct {
	first sync.Once
	maker func() (T, bool)
	value T
	ok    bool
}

// NewLazy makes a Lazy whose maker hasn't been called yet.
func NewLazy[T any](maker func() (T, bool)) *Lazy[T] { return &Lazy[T]{maker: maker} }

// Get is P3.6: what the maker answers, or has answered.
func (l *Lazy[T]) Get() (T, bool) {
	if l == nil {
		return zero[T]()
	}
	l.first.Do(l.fill)
	return l.value, l.ok
}

// fill lets go of the maker, which may hold much and isn't called again. Where the maker panics, the value and the truth stay zero and false.
func (l *Lazy[T]) fill() {
	defer func() { _ = recover() }()
	maker := l.maker
	l.maker = nil
	if maker != nil {
		l.value, l.ok = maker()
	}
}
