import Derived.Test.YtkgbdddkcjpgfaaGreatDoorC26
import Derived.Test.YtkgbdddkcjpgfaaGreatDoorC19
namespace Go.Proofs.YtkgbdddkcjpgfaaGreatDoor
set_option maxHeartbeats 1000000
set_option maxRecDepth 100000
open Go.Proofs.Tryz
open Pl (PV PW PS PF PFr Byt Env)
section
open Go.RowKit Go.Lib Go.Maps
variable {w w':World} {M:Nat->Prop} {v:Value} {sb tb mb gb k i:Nat} {c:Array Value} {T:TypeId}
structure Kept(M:Nat->Prop)(w:World)(rb:Nat)(w':World):Prop where
 stp:Stp M w M w'
 run:w'.heap[rb]?=w.heap[rb]?
 outs:∀(g:Nat)(cur:Array Value)(fz:Nat×Nat),w.heap[g]?=some (Obj.cells cur TBy fz)->w'.heap[g]?=w.heap[g]?
theorem FormO.go{M':Nat->Prop}{s t:Sg}(hs:Stp M w M' w')(l:Sg.Le s t){ev gv:Value}{S:PS}(h:FormO M w s v ev gv S):FormO M' w' t v ev gv S:=by
 unfold FormO at h ⊢;split
 ·rename_i hf;rw [hf] at h;exact⟨h.1,h.2.le l⟩
 ·rename_i f hf;rw [hf] at h;exact⟨h.1.go hs l,h.2.go hs l⟩
theorem Sta.kept{s t:Sg}{rb:Nat}{S:PS}{out:Byt}(h:Sta M w s sb rb S out)(hk:Kept M w rb w')(l:Sg.Le s t):Sta M w' t sb rb S out:=by obtain⟨fv,ev,gv,kv,ov,h1,h2,h3,h4⟩:=h.ex;exact⟨fv,ev,gv,kv,ov,⟨hk.run.trans h1.blk,h1.mrb⟩,h2.go hk.stp l,h3.go hk.stp l,h4.keep (fun g cur fz hm hg=>⟨hk.outs g cur fz hg,hm⟩)⟩
theorem GlobD.setL{D:DataW Value}{s:Sg}{W:PW}(h:GlobD D s W){c:Nat×Nat}(hl:s.lp[i]?=some (some c))(q:PV):GlobD D s {W with places:=W.places.set i q}:=by refine⟨h.tidy,?_,h.no,h.keys,h.names,h.inj⟩;intro j a m hj hm;obtain⟨h1,u,p,h2,h3,h4⟩:=h.yes j a m hj hm;refine⟨h1,u,p,h2,?_,h4⟩;show(W.places.set i q)[m]?=some p;rw [List.getElem?_set_ne (fun e=>by subst e;rw [(h.names a _ hm).2] at hl;simp at hl)];exact h3
theorem Wd.nodup{s:Sg}{W:PW}(h:Wd M w s tb mb sb gb W):s.ns.Nodup:=by obtain⟨D,_,hD⟩:=h.rdr.tab.map;exact hD.nodup
theorem Wd.eng{s:Sg}{W:PW}(h:Wd M w s tb mb sb gb W):Eng s:=.inl ⟨h.tq,h.tc⟩
theorem Wd.setPlace{s:Sg}{W:PW}(h:Wd M w s tb mb sb gb W){g o:Nat}{q:PV}(hl:s.lp[i]?=some (some (g,o)))(hv:RV s v q)(rb:Nat)(cs:Array Value)(hrb:w.heap[rb]?=some (.cells cs TRun (0,0))) :Wd M (w.setCell ⟨g,o,none⟩ v) s tb mb sb gb {W with places:=W.places.set i q}/\Kept M w rb (w.setCell ⟨g,o,none⟩ v)/\w.frozen? ⟨g,o,none⟩=false/\∃u,w.cell? ⟨g,o,none⟩=some u:=by
 have hi:=(List.getElem?_eq_some_iff.1 hl).1;obtain⟨hM,cur,v0,hg,hc,_⟩:=h.places.at_ i g o _ hl (List.getElem?_eq_getElem (by rw [<- h.places.len];exact hi));have hs:Stp M w M (w.setCell ⟨g,o,none⟩ v):=Stp.set hM o v;have other:∀k,k≠g->(w.setCell ⟨g,o,none⟩ v).heap[k]?=w.heap[k]? := fun k e=>Below.heap_setCell _ _ _ _ (fun x=>e (by simpa using x));obtain⟨e1,c1,hmb⟩:=h.rdr.tab.mapAt;obtain⟨e2,c2,hgb⟩:=h.glob.mapAt;have nmb:mb≠g:=fun e=>by subst e;rw [hg] at hmb;simp at hmb
 have ngb:gb≠g:=fun e=>by subst e;rw [hg] at hgb;simp at hgb
 obtain⟨t1,t2⟩:=hs.block tb h.rdr.tab.lt.1 h.rdr.mtb;obtain⟨s1,s2⟩:=hs.block sb (aB h.ses) h.msb;have hol:o<cur.size:=(Array.getElem?_eq_some_iff.1 hc).1;refine⟨⟨⟨h.rdr.tab.keep t1 (other mb nmb),h.rdr.pairs.stp hs,h.rdr.mmb,t2,fun k hk=>by simpa [World.setCell] using h.rdr.mlt k hk⟩,s1.trans h.ses,s2,?_,h.mgb,h.gne,h.procs.mono (fun b x hx=>hx.go hs (Sg.Le.refl _)),h.conts.mono (fun b x hx=>hx.go hs (Sg.Le.refl _)),?_,h.gs.stp hs,h.prm.stp h.gs hs,(bY h.gs hs kT).trans h.gt,?_,h.tq,h.tc⟩,⟨hs,?_,?_⟩,aF hg o,v0,(aA hg o).trans hc⟩
 ·obtain⟨D,hown,hD⟩:=h.glob.keep (other gb ngb);exact⟨D,hown,hD.setL hl q⟩
 ·refine⟨by rw [List.length_set];exact h.places.len,h.places.inj,fun j g' o' p hj hp=>?_⟩;by_cases e:j=i
  ·subst e;rw [hl] at hj;simp only [Option.some.injEq,Prod.mk.injEq] at hj;obtain⟨rfl,rfl⟩:=hj;rw [List.getElem?_set_self (by rw [<- h.places.len];exact hi)] at hp;obtain rfl:=Option.some.inj hp;exact⟨hM,_,v,aD hg o v,by simp [hol],hv⟩
  ·rw [List.getElem?_set_ne (fun x=>e x.symm)] at hp;obtain⟨h1,cur',v',h2,h3,h4⟩:=h.places.at_ j g' o' p hj hp;by_cases eg:g'=g
   ·subst eg;rw [hg] at h2;simp only [Option.some.injEq,Obj.cells.injEq,and_true] at h2;subst h2;have eo:o'≠o:=fun eo=>e (h.places.inj j i (g',o') hj (by rw [eo];exact hl));refine⟨h1,_,v',aD hg o v,?_,h4⟩;rw [Array.getElem?_setIfInBounds,if_neg (fun x=>eo x.symm)];exact h3
   ·exact⟨h1,cur',v',(other g' eg).trans h2,h3,h4⟩
 ·obtain⟨u,h1,h2⟩:=h.ge;exact⟨u,(bY h.gs hs kU).trans h1,h2⟩
 ·exact other rb (fun e=>by
   subst e;rw [hg] at hrb;simp only [Option.some.injEq,Obj.cells.injEq] at hrb
   exact absurd hrb.2.1 (by decide))
 ·intro k cur' fz hk
  exact other k (fun e=>by
   subst e;rw [hg] at hk;simp only [Option.some.injEq,Obj.cells.injEq] at hk
   exact absurd hk.2.1 (by decide))
theorem Wd.turn{s t:Sg}{W W':PW}(h:Wd M w s tb mb sb gb W)(hg:w.grownBy w' (some gb))(l:Sg.Le s t)(lp:t.pb=s.pb)(lq:t.qb=s.qb)(lc:t.cb=s.cb)(ln:t.ns=s.ns)(hG:GlobAt w' gb t W')(hP:PlacesAt M w t W'.places)(e1:W'.pairs=W.pairs)(e2:W'.procs=W.procs)(e3:W'.conts=W.conts)(rb:Nat)(cs:Array Value)(hrb:w.heap[rb]?=some (.cells cs TRun (0,0))) :Wd M w' t tb mb sb gb W'/\Kept M w rb w':=by
 have hs:Stp M w M w':=Stp.of_grown hg (fun k hk=>by obtain rfl:=Option.some.inj hk;exact h.mgb);have other:∀k,k<w.heap.size->k≠gb->w'.heap[k]?=w.heap[k]? := fun k hk e=>hg.block k hk (fun x=>e (Option.some.inj x));obtain⟨es,c,hgb⟩:=h.glob.mapAt;have cells:∀(k:Nat)(cur:Array Value)(T:TypeId)(fz:Nat×Nat),w.heap[k]?=some (Obj.cells cur T fz)->w'.heap[k]?=w.heap[k]? := fun k cur T fz hk=>other k (aB hk) (fun e=>by subst e;rw [hgb] at hk;simp at hk);obtain⟨t1,t2⟩:=hs.block tb h.rdr.tab.lt.1 h.rdr.mtb;obtain⟨s1,s2⟩:=hs.block sb (aB h.ses) h.msb;have htab:Tab w' tb mb t.ns:=by rw [ln];exact h.rdr.tab.keep t1 (other mb h.rdr.tab.lt.2 (fun e=>h.gne e.symm))
 refine⟨⟨⟨htab,by rw [e1];exact(h.rdr.pairs.stp hs).le l lp,h.rdr.mmb,t2,fun k hk=>Nat.lt_of_lt_of_le (h.rdr.mlt k hk) hg.size⟩,s1.trans h.ses,s2,hG,h.mgb,h.gne,by rw [e2,lq];exact h.procs.mono (fun b x hx=>hx.go hs l),by rw [e3,lc];exact h.conts.mono (fun b x hx=>hx.go hs l),?_,h.gs.stp hs,h.prm.stp h.gs hs,(bY h.gs hs kT).trans h.gt,?_,by rw [l.tq];exact h.tq,by rw [l.tc];exact h.tc⟩,⟨hs,(cells rb cs _ _ hrb),fun k cur fz hk=>cells k cur _ _ hk⟩⟩
 ·exact⟨hP.len,hP.inj,fun i g o p hi hp=>by
   obtain⟨h1,cur,v,h2,h3⟩:=hP.at_ i g o p hi hp
   exact⟨h1,cur,v,(cells g cur _ _ h2).trans h2,h3⟩⟩
 ·obtain⟨u,h1,h2⟩:=h.ge;exact⟨u,(bY h.gs hs kU).trans h1,h2⟩
theorem Wd.putG{s:Sg}{W:PW}(h:Wd M w s tb mb sb gb W)(hN:NsOk s){nm:Byt}{q:PV}(hk:s.ns[k]?=some nm)(hf:Pl.find W.globals nm=some i)(hv:RV s v q)(hgl:W.globals.length<=6500000000000000000)(rb:Nat)(cs:Array Value)(hrb:w.heap[rb]?=some (.cells cs TRun (0,0))) :∃w',(Instr.mapUpdate 145 (.map (some gb)) (.int .i64 (k:Int)) v).run prog w=.ok () w'/\Wd M w' s tb mb sb gb {W with places:=W.places.set i q}/\Kept M w rb w':=by
 obtain⟨D,hown,hD⟩:=h.glob;have hkl:k<=NsTop:=by have:=(List.getElem?_eq_some_iff.1 hk).1;unfold NsOk at hN;omega
 obtain⟨w',hrun,hown',hturn⟩:=hown.store lawI underlying145 (by unfold maxLen;omega) (keyK hkl) (d:=.held v) (ps:=[]) (val:=v) rfl;have hlp:=(hD.names nm i hf).2;have hil:i<W.places.length:=by rw [<- h.places.len];exact(List.getElem?_eq_some_iff.1 hlp).1
 have hD':=hD.setG h.nodup hk hf hv hil;have hsz:Maps.size (D.put (.int .i64 (k:Int)) (.held v))<=W.globals.length:=by rw [size_put hD.tidy,(hD.yes k nm i hk hf).1];exact hown.size_le
 obtain⟨h1,h2⟩:=h.turn (t:=s) (W':={W with places:=W.places.set i q}) hturn.grown (Sg.Le.refl _) rfl rfl rfl rfl ⟨_,(own_low hown').mono hsz,hD'⟩ (h.places.setO hlp q) rfl rfl rfl rb cs hrb;exact⟨w',hrun,h1,h2⟩
theorem Wd.newG{s:Sg}{W:PW}(h:Wd M w s tb mb sb gb W)(hN:NsOk s){nm:Byt}{q:PV}(hk:s.ns[k]?=some nm)(hf:Pl.find W.globals nm=none)(hv:RV s v q)(hg:WfE W W.globals)(hgl:W.globals.length<=6500000000000000000)(rb:Nat)(cs:Array Value)(hrb:w.heap[rb]?=some (.cells cs TRun (0,0))) :∃w',(Instr.mapUpdate 145 (.map (some gb)) (.int .i64 (k:Int)) v).run prog w=.ok () w'/\Wd M w' s.addGlob tb mb sb gb {W with places:=W.places++[q],globals:=W.globals++[(nm,W.places.length)]}/\Kept M w rb w':=by
 obtain⟨D,hown,hD⟩:=h.glob;have hkl:k<=NsTop:=by have:=(List.getElem?_eq_some_iff.1 hk).1;unfold NsOk at hN;omega
 obtain⟨w',hrun,hown',hturn⟩:=hown.store lawI underlying145 (by unfold maxLen;omega) (keyK hkl) (d:=.held v) (ps:=[]) (val:=v) rfl;have hD':=hD.newG h.nodup hk hf hv h.places.len hg;obtain⟨h1,h2⟩:=h.turn (t:=s.addGlob) (W':={W with places:=W.places++[q],globals:=W.globals++[(nm,W.places.length)]}) hturn.grown s.addGlob_le rfl rfl rfl rfl ⟨_,by simpa using hown',hD'⟩ (h.places.newO q) rfl rfl rfl rb cs hrb;exact⟨w',hrun,h1,h2⟩
def TOc:TypeId:=43
def TLn:TypeId:=46
structure Sto(w w':World):Prop where
 size:w.heap.size<=w'.heap.size
 block:∀(k:Nat)(o:Obj),w.heap[k]?=some o->(∀c T fz,(T=TOc\/T=TLn)->o≠Obj.cells c T fz)->w'.heap[k]?=some o
 low:∀k,k<8->w'.heap[k]?=w.heap[k]?
theorem aAO{fz:Nat×Nat}(h:T≠TOc/\T≠TLn):∀c' T' fz',(T'=TOc\/T'=TLn)->Obj.cells c T fz≠.cells c' T' fz':=fun c' T' fz' hT e=>by
 simp only [Obj.cells.injEq] at e;rcases hT with hT | hT
 ·exact h.1 (e.2.1.trans hT)
 ·exact h.2 (e.2.1.trans hT)
theorem Sto.cells(h:Sto w w'){fz:Nat×Nat}(hb:w.heap[k]?=some (.cells c T fz))(hT:T≠TOc/\T≠TLn):w'.heap[k]?=some (.cells c T fz):=h.block k _ hb (aAO hT)
theorem Sto.map(h:Sto w w'){es:Array MapEntry}{c:Nat}(hb:w.heap[k]?=some (.map es c)):w'.heap[k]?=some (.map es c):=h.block k _ hb (fun _ _ _ _ e=>by cases e)
theorem Sl.sto(hs:Sto w w')(hT:T≠TOc/\T≠TLn){sz:Nat}{n:Nat}{xs:List Value}(h:Sl M w T sz v n xs):Sl M w' T sz v n xs:=by obtain⟨h0,ao,cap,e,h2,h3⟩:=h;refine⟨h0,ao,cap,e,h2,h3.imp id ?_⟩;rintro⟨g,off,cur,rfl,hn,hb,r⟩;exact⟨g,off,cur,rfl,hn,hs.cells hb hT,r⟩
theorem nVal:TVal≠TOc/\TVal≠TLn:=by unfold TVal TOc TLn;decide
theorem nForm:TForm≠TOc/\TForm≠TLn:=by unfold TForm TOc TLn;decide
theorem nNam:TNam≠TOc/\TNam≠TLn:=by unfold TNam TOc TLn;decide
theorem nPair:TPair≠TOc/\TPair≠TLn:=by unfold TPair TOc TLn;decide
theorem nSur:TSur≠TOc/\TSur≠TLn:=by unfold TSur TOc TLn;decide
theorem nPile:TPile≠TOc/\TPile≠TLn:=by unfold TPile TOc TLn;decide
theorem nSes:TSes≠TOc/\TSes≠TLn:=by unfold TSes TOc TLn;decide
theorem nPrS:TPrS≠TOc/\TPrS≠TLn:=by unfold TPrS TOc TLn;decide
theorem nCoS:TCoS≠TOc/\TCoS≠TLn:=by unfold TCoS TOc TLn;decide
theorem nTab:TTab≠TOc/\TTab≠TLn:=by unfold TTab TOc TLn;decide
theorem NmRow.sto(hs:Sto w w'){s:Sg}{sl:Value}{ns:List Byt}(h:NmRow M w s sl ns):NmRow M w' s sl ns:=by obtain⟨⟨ks,h1,h2⟩,h3,h4⟩:=h;exact⟨⟨ks,h1,h2.sto hs nNam⟩,h3,h4⟩
theorem RFm.sto(hs:Sto w w'){s:Sg}{f:PF}(h:RFm M w s v f):RFm M w' s v f:=by
 induction h with
 | const x q nm d v ks ns h hq=>exact .const x q nm d v ks ns h hq
 | name k nm d v ks ns h=>exact .name k nm d v ks ns h
 | iff a b c x y z nm d v ns _ _ _ i1 i2 i3=>exact .iff a b c x y z nm d v ns i1 i2 i3
 | begin sl us nm d v ks ns h1 h2 _ h4 h5 ih=>exact .begin sl us nm d v ks ns (h1.sto hs nForm) h2 ih h4 h5
 | call sl us nm d v ks ns h1 h2 _ h4 h5 ih=>exact .call sl us nm d v ks ns (h1.sto hs nForm) h2 ih h4 h5
 | set k a x nm d v ns h _ ih=>exact .set k a x nm d v ns h ih
 | define k a x nm d v ns h _ ih=>exact .define k a x nm d v ns h ih
 | lambda sl a x nm d v ns h1 _ ih=>exact .lambda sl a x nm d v ns (h1.sto hs) ih
theorem EnvR.sto(hs:Sto w w'){s:Sg}{e:Env}(h:EnvR M w s v e):EnvR M w' s v e:=by
 induction h with
 | nil=>exact .nil
 | cons b nv up ao cap base ns env hb hm hn hcap hp _ ih=>exact .cons b nv up ao cap base ns env (hs.cells hb nSur) hm (hn.sto hs) hcap hp ih
theorem FmsAt.sto(hs:Sto w w'){s:Sg}{fs:List PF}(h:FmsAt M w s v fs):FmsAt M w' s v fs:=by obtain⟨us,h1,h2⟩:=h;exact⟨us,h1.sto hs nForm,h2.mono (fun _ _ x=>x.sto hs)⟩
theorem ValsAt.sto(hs:Sto w w'){s:Sg}{fs:List PV}(h:ValsAt M w s v fs):ValsAt M w' s v fs:=by obtain⟨us,h1,h2⟩:=h;exact⟨us,h1.sto hs nVal,h2⟩
theorem TopR.sto(hs:Sto w w'){s:Sg}{fr:PFr}(h:TopR M w s v fr):TopR M w' s v fr:=by
 cases h with
 | iff a b c ev _ x y z hk hf ha h2 h3 he=>exact .iff a b c ev _ x y z hk hf ha (h2.sto hs) (h3.sto hs) (he.sto hs)
 | set k ev _ hk hn he=>exact .set k ev _ hk hn (he.sto hs)
 | define k _ hk hn=>exact .define k _ hk hn
 | begin rv ev _ hk hr he=>exact .begin rv ev _ hk (hr.sto hs) (he.sto hs)
 | call vv rv ev _ hk hv hr he=>exact .call vv rv ev _ hk (hv.sto hs) (hr.sto hs) (he.sto hs)
theorem FrR.sto(hs:Sto w w'){s:Sg}:∀(fs:List PFr)(v:Value),FrR M w s v fs->FrR M w' s v fs
 | [],_,h=>h
 | f::r,v,h=>by obtain⟨b,top,up,h1,h2,h3,h4,h5⟩:=h;exact⟨b,top,up,h1,h2,hs.cells h3 nPile,h4.sto hs,FrR.sto hs r up h5⟩
theorem ProcAt.sto(hs:Sto w w'){s:Sg}{b:Nat}{q:PF×Env}(h:ProcAt M w s b q):ProcAt M w' s b q:=by obtain⟨h1,nv,body,ev,x,h2,h3,h4,h5,h6⟩:=h;exact⟨h1,nv,body,ev,x,hs.cells h2 nPrS,h3,h4.sto hs,h5.sto hs,h6.sto hs⟩
theorem ContAt.sto(hs:Sto w w'){s:Sg}{b:Nat}{q:List PFr}(h:ContAt M w s b q):ContAt M w' s b q:=by obtain⟨h1,kv,h2,h3⟩:=h;exact⟨h1,kv,hs.cells h2 nCoS,h3.sto hs⟩
theorem Wd.sto{s:Sg}{W:PW}(h:Wd M w s tb mb sb gb W)(hs:Sto w w'):Wd M w' s tb mb sb gb W:=by
 have low:∀k o,k<8->w'.cell? ⟨k,o,none⟩=w.cell? ⟨k,o,none⟩:=fun k o hk=>World.cell?_of_block (w:=w) (hs.low k hk);obtain⟨e1,c1,hmb⟩:=h.rdr.tab.mapAt;obtain⟨es,c,hgb⟩:=h.glob.mapAt;refine⟨⟨h.rdr.tab.keep ((hs.cells h.rdr.tab.blk nTab).trans h.rdr.tab.blk.symm) ((hs.map hmb).trans hmb.symm),⟨h.rdr.pairs.len,h.rdr.pairs.nodup,fun i b p hb hp=>?_⟩,h.rdr.mmb,h.rdr.mtb,fun k hk=>Nat.lt_of_lt_of_le (h.rdr.mlt k hk) hs.size⟩,hs.cells h.ses nSes,h.msb,h.glob.keep ((hs.map hgb).trans hgb.symm),h.mgb,h.gne,h.procs.mono (fun b x hx=>hx.sto hs),h.conts.mono (fun b x hx=>hx.sto hs),⟨h.places.len,h.places.inj,fun i g o p hi hp=>?_⟩,⟨Nat.le_trans h.gs.size hs.size,h.gs.low,iH hs.low h.gs.tab⟩,fun k nm hk h12=>?_,(low _ _ kT).trans h.gt,?_,h.tq,h.tc⟩
 ·obtain⟨k1,x,y,k2,k3,k4⟩:=h.rdr.pairs.at_ i b p hb hp;exact⟨k1,x,y,hs.cells k2 nPair,k3,k4⟩
 ·obtain⟨k1,cur,v,k2,k3,k4⟩:=h.places.at_ i g o p hi hp;exact⟨k1,cur,v,hs.cells k2 nVal,k3,k4⟩
 ·rw [low _ _ jN,low _ _ jN];exact h.prm k nm hk h12
 ·obtain⟨u,k1,k2⟩:=h.ge;exact⟨u,(low _ _ kU).trans k1,k2⟩
theorem Sto.set{R:Nat}{fz:Nat×Nat}(hb:w.heap[R]?=some (.cells c TOc fz))(hR:8<=R)(o:Nat)(v:Value):Sto w (w.setCell ⟨R,o,none⟩ v) :=
 ⟨(aE w R o v).size,fun k x hk hx=>((aE w R o v).block k (aB hk) (fun e=>by
   have:=Option.some.inj e;subst this;rw [hb] at hk
   exact hx c TOc fz (.inl rfl) (Option.some.inj hk).symm)).trans hk,fun k hk=>by
  rcases Nat.lt_or_ge k w.heap.size with h | h
  ·exact(aE w R o v).block k h (fun e=>by have:=Option.some.inj e;omega)
  ·have:=aB hb;omega⟩
theorem RdQ.after{w1:World}{s:Sg}{ps:List (PV×PV)}{bs:Byt}{ev:Value}(h:RdQ M w1 s tb mb ps bs v ev w')(hb:Below w.heap.size w w1):RdQ M w s tb mb ps bs v ev w':=by obtain⟨h1,h2⟩:=h;exact⟨aM (aI hb) h1,h2⟩
theorem yJ(b:ByteArray)(n:Int)(M:Nat->Prop)(w:World)(s:Sg)(tb mb:Nat)(ps:List (PV×PV))(hR:Rdr M w s tb mb ps)(hge:GE w)(hz:s.ns.length+300<=NsMax) :Calls prog 48 #[.agg #[.string b,.int .i64 n],.pointer (some ⟨tb,0,none⟩)] w fun e w'=>∃v ev,e=.returned (.tuple #[v,ev])/\((Pl.over n=true/\(∃es,ev=aY es 6)/\Below w.heap.size w w')\/(Pl.over n=false/\RdQ M w s tb mb ps b.data.toList v ev w')):=by
 have hB1:Below w.heap.size w (w.alloc (.cells #[.string b,.int .i64 n] 41)):=(Below.refl _ _).alloc (Nat.le_refl _) _;have HB1:Hid (Below w.heap.size w (w.alloc (.cells #[.string b,.int .i64 n] 41))):=hB1;by_cases h0:n<0
 ·have hd:decide (n<0)=true:=by simpa using h0
  have HO:Hid (Pl.over n=true):=show Pl.over n=true from by unfold Pl.over;rw [hd];rfl
  clear hR hge hz hB1;go_enter func48,ntmps48;go_wp2_with (go_at_call 78;refine(bJ _ _ _).mono ?_;rintro e w3 ⟨rfl,rfl⟩);go_ret2;exact⟨_,_,rfl,.inl ⟨HO.out,⟨_,rfl⟩,HB1.out⟩⟩
 ·have hd:decide (n<0)=false:=by simpa using h0
  by_cases h1:(1000000:Int)<n
  ·have hd1:decide ((1000000:Int)<n)=true:=by simpa using h1
   have HO:Hid (Pl.over n=true):=show Pl.over n=true from by unfold Pl.over;rw [hd,hd1];rfl
   clear hR hge hz hB1;go_enter func48,ntmps48;go_wp2_with (go_at_call 78;refine(bJ _ _ _).mono ?_;rintro e w3 ⟨rfl,rfl⟩);go_ret2;exact⟨_,_,rfl,.inl ⟨HO.out,⟨_,rfl⟩,HB1.out⟩⟩
  ·have hd1:decide ((1000000:Int)<n)=false:=by simpa using h1
   have HO:Hid (Pl.over n=false):=show Pl.over n=false from by unfold Pl.over;rw [hd,hd1];rfl
   have HC:Hid (Calls prog 40 #[.string b,.pointer (some ⟨tb,0,none⟩)] (w.alloc (.cells #[.string b,.int .i64 n] 41)) fun e w'=>∃v ev,e=.returned (.tuple #[v,ev])/\RdQ M (w.alloc (.cells #[.string b,.int .i64 n] 41)) s tb mb ps b.data.toList v ev w'):=aDC b M _ s tb mb ps (hR.below hB1) (by
    obtain⟨v,k1,k2⟩:=hge
    exact⟨v,(hB1.cell (World.block_lt_of_cell? _ _ k1)).trans k1,k2⟩) hz
   clear hR hge hz hB1;go_enter func48,ntmps48;go_wp2_with (go_at_call 40;refine Calls.mono HC.out ?_;rintro e w3 ⟨v,ev,rfl,HQ⟩);go_ret2;exact⟨_,_,rfl,.inr ⟨HO.out,HQ.after HB1.out⟩⟩
def RdN(M:Nat->Prop)(w:World)(s:Sg)(tb mb:Nat)(ps:List (PV×PV))(bs:Byt)(v ev:Value)(w':World):Prop :=
 w.grownBy w' (some mb)/\∃t,(SgR s t/\PbN w s t)/\t.ns.length<=s.ns.length+300 /\
  ((∃c es,Pl.check bs=c/\0<c/\c<=5/\ev=aY es c/\t.pb=s.pb/\Rdr M w' t tb mb ps) \/
   (∃f,Pl.check bs=0/\Pl.readF bs=some f/\ev=.nilIface/\Rdr M w' t tb mb (ps++(Pl.settle f ps.length).2)/\RFm M w' t v (Pl.settle f ps.length).1))
theorem aB0(b:ByteArray)(n:Int)(M:Nat->Prop)(w:World)(s:Sg)(tb mb:Nat)(ps:List (PV×PV))(hR:Rdr M w s tb mb ps)(hge:GE w)(hz:s.ns.length+300<=NsMax) :Calls prog 48 #[.agg #[.string b,.int .i64 n],.pointer (some ⟨tb,0,none⟩)] w fun e w'=>∃v ev,e=.returned (.tuple #[v,ev])/\((Pl.over n=true/\(∃es,ev=aY es 6)/\Below w.heap.size w w')\/(Pl.over n=false/\RdN M w s tb mb ps b.data.toList v ev w')):=by
 let M2:Nat->Prop:=fun k=>M k\/(k<w.heap.size/\k∉s.pb/\∃c fz,w.heap[k]?=some (.cells c TPair fz))
 have hR2:Rdr M2 w s tb mb ps:=by
  refine⟨hR.tab,⟨hR.pairs.len,hR.pairs.nodup,fun i b p hb hp=>?_⟩,.inl hR.mmb,?_,?_⟩
  ·obtain⟨h1,h2⟩:=hR.pairs.at_ i b p hb hp;exact⟨fun x=>x.elim h1 (fun y=>y.2.1 (List.mem_of_getElem? hb)),h2⟩
  ·rintro(x | ⟨_,_,c,fz,x⟩)
   ·exact hR.mtb x
   ·rw [hR.tab.blk] at x;simp only [Option.some.injEq,Obj.cells.injEq] at x;exact absurd x.2.1 (by unfold TTab TPair;decide)
  ·rintro k (x | x)
   ·exact hR.mlt k x
   ·exact x.1
 refine(yJ b n M2 w s tb mb ps hR2 hge hz).mono (fun e w' hh=>?_);obtain⟨v,ev,rfl,h | ⟨h0,hg,t,h1,h2,h3⟩⟩:=hh
 ·exact⟨v,ev,rfl,.inl h⟩
 ·have back:∀{qs},Rdr M2 w' t tb mb qs->Rdr M w' t tb mb qs/\PbN w s t:=fun {qs} k=>by
   refine⟨⟨k.tab,k.pairs.weaken (fun _ x=>.inl x),hR.mmb,hR.mtb,fun i hi=>k.mlt i (.inl hi)⟩,fun b hb=>?_⟩;obtain⟨i,hi⟩:=List.getElem?_of_mem hb;have hil:=(List.getElem?_eq_some_iff.1 hi).1;obtain⟨k1,x,y,k2,_⟩:=k.pairs.at_ i b _ hi (List.getElem?_eq_getElem (by rw [<- k.pairs.len];exact hil));rcases Nat.lt_or_ge b w.heap.size with hlt | hge
   ·by_cases hm:b∈s.pb
    ·exact .inl hm
    ·obtain⟨es,c,hmb⟩:=k.tab.mapAt;have hne:b≠mb:=fun e=>by rw [e,hmb] at k2;cases k2
     exact absurd (Or.inr ⟨hlt,hm,_,_,(hg.block b hlt (fun e=>hne (Option.some.inj e))).symm.trans k2⟩) k1
   ·exact .inr hge
  refine⟨v,ev,rfl,.inr ⟨h0,hg,t,?_⟩⟩;rcases h3 with⟨c,es,a1,a2,a3,a4,a5,a6⟩ | ⟨f,a1,a2,a3,a4,a5⟩
  ·exact⟨⟨h1,(back a6).2⟩,h2,.inl ⟨c,es,a1,a2,a3,a4,a5,(back a6).1⟩⟩
  ·exact⟨⟨h1,(back a4).2⟩,h2,.inr ⟨f,a1,a2,a3,(back a4).1,a5.go ⟨rfl,rfl,rfl,Nat.le_refl _,fun k _ hm=>⟨rfl,fun x=>hm (.inl x)⟩⟩ (Sg.Le.refl _)⟩⟩
theorem Wd.read{s t:Sg}{W:PW}{ps:List (PV×PV)}(h:Wd M w s tb mb sb gb W)(hg:w.grownBy w' (some mb))(hr:SgR s t)(hR:Rdr M w' t tb mb ps):Wd M w' t tb mb sb gb {W with pairs:=ps}:=by
 have hs:Stp M w M w':=eL hg h.rdr.mmb;have l:=hr.le;obtain⟨es,c,hgb⟩:=h.glob.mapAt;obtain⟨s1,s2⟩:=hs.block sb (aB h.ses) h.msb;obtain⟨e1,c1,hmb⟩:=h.rdr.tab.mapAt;have other:∀k,k<w.heap.size->k≠mb->w'.heap[k]?=w.heap[k]? := fun k hk e=>hg.block k hk (fun x=>e (Option.some.inj x));obtain⟨a,m,rfl⟩:=hr;have hnd:(s.ns++m).Nodup:=by obtain⟨D,_,hD⟩:=hR.tab.map;exact hD.nodup
 refine⟨hR,s1.trans h.ses,s2,?_,h.mgb,h.gne,h.procs.mono (fun b x hx=>hx.go hs l),h.conts.mono (fun b x hx=>hx.go hs l),?_,h.gs.stp hs,h.prm.stp h.gs hs,(bY h.gs hs kT).trans h.gt,?_,h.tq,h.tc⟩
 ·obtain⟨D,h1,h2⟩:=h.glob.keep (other gb (aB hgb) h.gne);refine⟨D,h1,h2.tidy,fun k nm i hk hf=>?_,fun k nm hk hf=>?_,fun k hk=>?_,fun nm i hf=>?_,h2.inj⟩
  ·have hmem:=(h2.names nm i hf).1;obtain⟨j,hj⟩:=List.getElem?_of_mem hmem;have hj2:(s.ns++m)[j]?=some nm:=bS (List.prefix_append _ _) hj;have e1:=cV hnd hk;have e2:=cV hnd hj2;obtain rfl:j=k:=by omega
   obtain⟨k1,v,p,k2,k3,k4⟩:=h2.yes j nm i hj hf;exact⟨k1,v,p,k2,k3,k4.le l⟩
  ·rcases Nat.lt_or_ge k s.ns.length with hkl | hkl
   ·have:(s.ns++m)[k]?=some nm:=hk;rw [List.getElem?_append_left hkl] at this;exact h2.no k nm this hf
   ·cases hh:Maps.has D (.int .i64 (k:Int)) with
    | false=>rfl
    | true=>have:=h2.keys k hh;omega
  ·have:=h2.keys k hk;show k<(s.ns++m).length;rw [List.length_append];omega
  ·obtain⟨k1,k2⟩:=h2.names nm i hf;exact⟨List.mem_append_left _ k1,k2⟩
 ·refine⟨h.places.len,h.places.inj,fun i g o p hi hp=>?_⟩;obtain⟨k1,cur,v,k2,k3,k4⟩:=h.places.at_ i g o p hi hp;exact⟨k1,cur,v,(other g (aB k2) (fun e=>by subst e;rw [hmb] at k2;simp at k2)).trans k2,k3,k4.le l⟩
 ·obtain⟨u,k1,k2⟩:=h.ge;exact⟨u,(bY h.gs hs kU).trans k1,k2⟩
end
end Go.Proofs.YtkgbdddkcjpgfaaGreatDoor
