package syntax

import "stepper/spell"

func (c Constant) Spell(to *spell.Text) {
	if c.Quoted {
		spell.List(to, []spell.Speller{Name("quote"), c.Value})
	} else {
		c.Value.Spell(to)
	}
}

func (n Name) Spell(to *spell.Text) { to.Add(string(n)) }

func (f If) Spell(to *spell.Text) {
	spell.List(to, []Form{Name("if"), f.Test, f.Then, f.Else})
}

func (f Begin) Spell(to *spell.Text) {
	spell.List(to, append([]Form{Name("begin")}, f.Forms...))
}

func (f Set) Spell(to *spell.Text) {
	spell.List(to, []Form{Name("set!"), f.Name, f.Value})
}

func (f Lambda) Spell(to *spell.Text) {
	spell.List(to, []spell.Speller{Name("lambda"), names(f.Names), f.Body})
}

func (f Call) Spell(to *spell.Text) { spell.List(to, f.Forms) }

func (f Define) Spell(to *spell.Text) {
	spell.List(to, []Form{Name("define"), f.Name, f.Value})
}

type names []Name

func (n names) Spell(to *spell.Text) { spell.List(to, n) }
