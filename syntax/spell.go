package syntax

import "stepper/spell"

func (c Constant) Spell(to *spell.Text) {
	if c.Quoted {
		spell.List(to, []spell.Speller{keyword("quote"), c.Value})
	} else {
		c.Value.Spell(to)
	}
}

func (n Name) Spell(to *spell.Text) { to.Add(n.Text) }

func (f If) Spell(to *spell.Text) {
	spell.List(to, []Form{keyword("if"), f.Test, f.Then, f.Else})
}

func (f Begin) Spell(to *spell.Text) {
	spell.List(to, append([]Form{keyword("begin")}, f.Forms...))
}

func (f Set) Spell(to *spell.Text) {
	spell.List(to, []Form{keyword("set!"), f.Name, f.Value})
}

func (f Lambda) Spell(to *spell.Text) {
	spell.List(to, []spell.Speller{keyword("lambda"), row(f.Names), f.Body})
}

func (f Call) Spell(to *spell.Text) { spell.List(to, f.Forms) }

func (f Define) Spell(to *spell.Text) {
	spell.List(to, []Form{keyword("define"), f.Name, f.Value})
}

type row []Name

func (r row) Spell(to *spell.Text) { spell.List(to, r) }

// keyword is told as a name is; nothing is found by it.
func keyword(text string) Name { return Name{Text: text} }
