import Derived.Test.YtkgbdddkcjpgfaaGreatDoorT39
import Derived.Test.YtkgbdddkcjpgfaaGreatDoorT51
namespace Go.Proofs.YtkgbdddkcjpgfaaGreatDoor
set_option maxHeartbeats 4000000
set_option maxRecDepth 100000
open Go.Proofs.Tryz
open Pl (PV PW PS PF AE AW)
section
open Go.RowKit Go.Lib Go.Maps
variable {mb tb sb gb rb m:Nat} {w w1 w0 w3 w2:World} {M Mk:Nat->Prop} {v lv fv:Value}
theorem RV.sh{s t:Sg}{c:Nat}(a:s.qb=[]/\s.cb=[])(hp:∀i b,s.pb[i]?=some b->t.pb[i+c]?=some b){p:PV}(h:RV s v p):RV t v (Pl.Z4 c p):=by
 cases h with
 | num n=>exact .num n
 | AT b=>exact .AT b
 | name t=>exact .name t
 | empty=>exact .empty
 | nothing=>exact .nothing
 | pair i b h=>exact .pair (i+c) b (hp i b h)
 | proc i b h=>rw [a.1] at h;cases h
 | cont i b h=>rw [a.2] at h;cases h
 | AZ k t h d=>exact .AZ k t h d
 | EC=>exact .EC
theorem CP.sh{s t:Sg}{c:Nat}(H:s.qb=[]/\s.cb=[])(hp:∀i b,s.pb[i]?=some b->t.pb[i+c]?=some b)(r:s.ns <+: t.ns){f:PF}(h:CP M w s v f):CP M w t v (Pl.shF c f):=by
 induction h with
 | const x q j d v n l h I =>rw [Pl.FT,if_pos rfl,if_pos rfl];exact .const x q j d _ _ l (h.sh H hp) I
 | name k j d v n l h =>rw [Pl.FT,if_neg (by simp),if_neg (by simp)];exact .name k j d v _ l (bS r h)
 | iff a b e x y z j d v l _ _ _ J K L =>rw [Pl.FT,if_neg (by simp),if_neg (by simp),Pl.DV,Pl.DV,Pl.DV,Pl.GF];exact .iff a b e _ _ _ j d v l J K L
 | begin o A j d v n l p B _ C D m =>
  rw [Pl.FT,if_neg (by simp),if_neg (by simp)]
  exact .begin o A j d v _ l (by rw [Pl.E4];exact p) (by rw [Pl.E4];exact B) (fun i u x E F=>by
   obtain⟨g,G,rfl⟩:=Pl.MM c n i x F
   exact m i u g E G) (by rw [Pl.E4];exact C) (by rw [Pl.E4];exact D)
 | call o A j d v n l p B _ C D m =>
  rw [Pl.FT,if_neg (by simp),if_neg (by simp)]
  exact .call o A j d v _ l (by rw [Pl.E4];exact p) (by rw [Pl.E4];exact B) (fun i u x E F=>by
   obtain⟨g,G,rfl⟩:=Pl.MM c n i x F
   exact m i u g E G) (by rw [Pl.E4];exact C) (by rw [Pl.E4];exact D)
 | set k a x j d v l h _ m =>rw [Pl.FT,if_neg (by simp),if_neg (by simp),Pl.DV,Pl.GF];exact .set k a _ j d v l (bS r h) m
 | define k a x j d v l h _ m =>rw [Pl.FT,if_neg (by simp),if_neg (by simp),Pl.DV,Pl.GF];exact .define k a _ j d v l (bS r h) m
 | lambda o a x j d v l p _ m =>rw [Pl.FT,if_neg (by simp),if_neg (by simp),Pl.DV,Pl.GF];obtain⟨⟨n,N,O⟩,P,Q⟩:=p;exact .lambda o a _ j d v l ⟨⟨n,N.mono (fun k t R=>bS r R),O⟩,P,Q⟩ m
def Sg.LB(s:Sg)(l:List Nat):Sg:={s with pb:=s.pb++l}
theorem Sg.RU(s:Sg)(l:List Nat):Sg.Le s (s.LB l):=⟨rfl,rfl,List.prefix_append _ _,List.prefix_refl _,List.prefix_refl _,List.prefix_refl _,List.prefix_refl _⟩
theorem Wd.late{s c:Sg}{W:PW}{ps:List (PV×PV)}(h:Wd M w s tb mb sb gb W)(z:c.qb=[]/\c.cb=[])(m:BD M w c ps)(A:∀b∈c.pb,b∉s.pb) :Wd M w (s.LB c.pb) tb mb sb gb {W with pairs:=W.pairs++ps.map (Pl.y_ W.pairs.length)}/\∀i b,c.pb[i]?=some b->(s.LB c.pb).pb[i+W.pairs.length]?=some b:=by
 have l:=s.RU c.pb;have d:=h.CY.pairs.len;have n:∀i b,c.pb[i]?=some b->(s.LB c.pb).pb[i+W.pairs.length]?=some b:=fun i b g=>by show(s.pb++c.pb)[i+W.pairs.length]?=some b;rw [List.getElem?_append_right (by omega),show i+W.pairs.length-s.pb.length=i by omega];exact g
 refine⟨⟨⟨h.CY.B3,⟨?_,?_,fun i b p g B=>?_⟩,h.CY.FV,h.CY.JJ,h.CY.mlt⟩,h.NN,h.msb,?_,h.TH,h.UE,h.procs.mono (fun b x o=>o.go (Stp.refl _ _) l),h.AG.mono (fun b x o=>o.go (Stp.refl _ _) l),h.places.le l rfl,h.gs,h.JQ,h.gt,h.ge,h.tq,h.tc⟩,n⟩
 ·show(s.pb++c.pb).length=(W.pairs++ps.map _).length;rw [a_,a_,List.length_map,d,m.len]
 ·show(s.pb++c.pb).Nodup;rw [List.nodup_append];refine⟨h.CY.pairs.nodup,m.nodup,fun a C b g=>?_⟩;rintro rfl;exact A a g C
 ·have e:(s.pb++c.pb)[i]?=some b:=g;have f:(W.pairs++ps.map (Pl.y_ W.pairs.length))[i]?=some p:=B;rcases Nat.lt_or_ge i s.pb.length with r | r
  ·rw [List.getElem?_append_left r] at e;rw [List.getElem?_append_left (by omega)] at f;obtain⟨j,x,y,k,t,u⟩:=h.CY.pairs.at_ i b p e f;exact⟨j,x,y,k,t.le l,u.le l⟩
  ·rw [List.getElem?_append_right r] at e;rw [List.getElem?_append_right (by omega),<-d,List.getElem?_map,Option.map_eq_some_iff] at f;obtain⟨q,v,rfl⟩:=f;obtain⟨j,x,y,k,t,u⟩:=m.at_ _ b q e v;rw [d];exact⟨j,x,y,k,t.sh z n,u.sh z n⟩
 ·obtain⟨D,j,k⟩:=h.DI;exact⟨D,j,k.le l rfl rfl rfl⟩
abbrev Ln:=Nat×AE×Nat
def C2(x:Ln):List Value:=[.int .i64 (x.1:Int),.string ⟨x.2.1.toArray⟩,.int .i64 (x.2.2:Int)]
theorem p_line(M:Nat->Prop)(w:World)(s:Sg)(tb mb o v j:Nat)(W:PW)(S:PS)(p:Wd M w s tb mb o v W)(l:LO M w s o j S W.out)(q:OU W)(y:∀f,S.form=some f->EU W f)(z:S.form=none->BL W S.val) :Calls prog 80 #[.pointer (some ⟨j,1,none⟩)] w fun e m=>e=.returned (.agg #[.int .i64 ((Pl.line W S).1:Int),.string ⟨(Pl.line W S).2.1.toArray⟩,.int .i64 ((Pl.line W S).2.2:Int)])/\Below w.heap.size w m:=by
 obtain⟨B,r,A,k,t,u,b,d,_⟩:=l.ex;have h:∀c,Below w.heap.size w c->Calls prog 127 #[k] c fun e m=>e=.returned (.int .i64 (S.AB.length:Int))/\c=m:=fun c g=>yK c k _ (d.J7.below g);unfold FE at b
 cases a:S.form with
 | some f =>
  rw [a] at b;have n:Pl.line W S=(1,Pl.cut (Pl.fT W.pairs f),S.AB.length):=by unfold Pl.line;rw [a]
  rw [n];obtain⟨T,x,rfl⟩:=b.1.iface;exact aCK w j _ r A k t T x _ _ u.blk d.ptr (fun c g=>aD0 q (p.TJ g) (Stp.AA (cX c _ _ n_)) (b.1.go (Stp.AA g) (Sg.Le.refl _)) (y f a)) h
 | none =>
  rw [a] at b;have n:Pl.line W S=(2,Pl.cut (Pl.text W.pairs S.val),S.AB.length):=by unfold Pl.line;rw [a]
  rw [n];obtain⟨rfl,i⟩:=b;obtain⟨T,x,rfl⟩:=i.iface;exact aCL w j _ r k t T x _ _ u.blk d.ptr (fun c g=>hH W q s c _ S.val (p.TJ g) i (z a)) h
theorem nRun:BT≠FZ/\BT≠G7:=by unfold BT FZ G7;decide
theorem nBy:JM≠FZ/\JM≠G7:=by unfold JM FZ G7;decide
theorem LO.FQ{w':World}{s:Sg}{S:PS}{c:AE}(h:LO M w s sb rb S c)(d:LH w w'):LO M w' s sb rb S c:=by
 obtain⟨k,l,m,n,o,i,a,e,p⟩:=h.ex;refine⟨k,l,m,n,o,⟨d.cells i.blk nRun,i.JK⟩,?_,e.FQ d,p.keep (fun g q t r j=>⟨(d.cells j nBy).trans j.symm,r⟩)⟩;unfold FE at a ⊢
 cases b:S.form with
 | some f =>rw [b] at a;exact⟨a.1.FQ d,a.2.FQ d⟩
 | none =>rw [b] at a;exact a
structure TrI(M:Nat->Prop)(w:World)(tb mb sb gb rb n:Nat)(T L:List Ln)(lv:Value)(wr:World)(Mk:Nat->Prop)(sk:Sg)(Wk:PW)(Sk:PS):Prop where
 AQ:Stp M w Mk wr
 wd:Wd Mk wr sk tb mb sb gb Wk
 SM:LO Mk wr sk sb rb Sk Wk.out
 len:L.length<=n
 inv:J2 (n-L.length) Wk Sk
 eq:T=L++Pl.trace (n-L.length) Wk Sk
 own:wr.ownsRow w.heap.size G7 3 lv L.length (L.flatMap C2)
 nm:∀g,lv.ownBlock=some g->¬Mk g
structure ON(M:Nat->Prop)(w:World)(tb mb sb gb rb:Nat)(L:List Ln)(lv:Value)(wr:World)(Mk:Nat->Prop)(sk:Sg)(Wk:PW)(Sk:PS):Prop where
 AQ:Stp M w Mk wr
 wd:Wd Mk wr sk tb mb sb gb Wk
 SM:LO Mk wr sk sb rb Sk Wk.out
 own:wr.ownsRow w.heap.size G7 3 lv L.length (L.flatMap C2)
 nm:∀g,lv.ownBlock=some g->¬Mk g
theorem TrI.push{n:Nat}{T L:List Ln}{wr:World}{s:Sg}{t:PW}{u:PS}(h:TrI M w tb mb sb gb rb n T L lv wr Mk s t u)(D:8<=w.heap.size){o:Obj}{g3 cap3:Nat}{x:Ln}
  (v:Below wr.heap.size wr w1) (i:w3.ownsRow w.heap.size G7 3 (.slice (some ⟨g3,0,none⟩) (L.length+1) cap3) (L.length+1) (L.flatMap C2++C2 x)) (a:(w1.alloc o).grownBy w3 lv.ownBlock) (c:lv.ownBlock=some g3\/g3=(w1.alloc o).heap.size) :
  ON M w tb mb sb gb rb (L++[x]) (.slice (some ⟨g3,0,none⟩) (L.length+1) cap3) w3 Mk s t u:=by
 have b:Below wr.heap.size wr (w1.alloc o):=v.alloc v.size o;have j:∀g,lv.ownBlock=some g->w.heap.size<=g/\g<wr.heap.size:=fun g e=>h.own.lt g e;have l:wr.heap.size<=(w1.alloc o).heap.size:=b.size;have m:=h.AQ.size
 have d:LH (w1.alloc o) w3:=by
  refine⟨a.size,fun k E f z=>(a.block k (aB f) (fun e=>?_)).trans f,fun k f=>a.block k (by omega) (fun e=>by have:=j k e.symm;omega)⟩;rcases h.own.2 with⟨p,_⟩ | ⟨g,A,q,p,_,y,_⟩
  ·rw [p] at e;cases e
  ·rw [p] at e;obtain rfl:k=g:=i_ e;have:=(b.block k (aB y)).trans y;rw [this] at f;exact z q G7 _ (.inr rfl) (i_ f).symm
 refine⟨⟨a.os.trans (b.os.trans h.AQ.os),a.tape.trans (b.tape.trans h.AQ.tape),a.output.trans (b.output.trans h.AQ.output),t_ m (t_ l a.size),fun k f r=>?_⟩,(h.wd.mv (Mv.below b)).FQ d,(h.SM.below b).FQ d,?_,fun g e=>?_⟩
 ·obtain⟨B,C⟩:=h.AQ.block k f r;exact⟨(a.block k (by omega) (fun e=>by have:=j k e.symm;omega)).trans ((b.block k (by omega)).trans B),C⟩
 ·rw [List.flatMap_append,a_];simpa using i
 ·obtain rfl:g3=g:=i_ e;rcases c with c | c
  ·exact h.nm _ c
  ·intro r;have:=h.wd.CY.mlt _ r;omega
theorem aDG{M':Nat->Prop}{w':World}{base:Nat}{T:TypeId}{sz:Nat}{n:Nat}{xs:List Value}(h:w.ownsRow base T sz v n xs)(b:Stp M w M' w')(c:∀g,v.ownBlock=some g->¬M g):w'.ownsRow base T sz v n xs/\∀g,v.ownBlock=some g->¬M' g :=⟨gA h (fun g a=>(b.block g (h.lt g a).2 (c g a)).1),fun g a=>(b.block g (h.lt g a).2 (c g a)).2⟩
theorem Tryz.infoLn:(prog.info? 46).map (fun i=>(i.zero,i.size,i.bytes))=some (some (.agg #[.int .i64 0,.string ⟨#[]⟩,.int .i64 0]),3,32):=by kernel_rfl
def E8(w:World)(v:Value)(L:List Ln):Prop:=∃ao cap,v=.slice ao L.length cap/\L.length<=cap/\∀(k:Nat)(x:Ln),L[k]?=some x->∃g,ao=some ⟨g,0,none⟩/\g<w.heap.size/\w.cell? ⟨g,k*3,none⟩=some (.int .i64 (x.1:Int))/\w.cell? ⟨g,k*3+1,none⟩=some (.string ⟨x.2.1.toArray⟩)/\w.cell? ⟨g,k*3+2,none⟩=some (.int .i64 (x.2.2:Int))
theorem TI:∀(L:List Ln)(k:Nat)(x:Ln),L[k]?=some x->(L.flatMap C2)[k*3]?=some (.int .i64 (x.1:Int))/\(L.flatMap C2)[k*3+1]?=some (.string ⟨x.2.1.toArray⟩)/\(L.flatMap C2)[k*3+2]?=some (.int .i64 (x.2.2:Int))
 | [],k,x,h=>by cases h
 | y::r,0,x,h=>by obtain rfl:=i_ h;exact⟨rfl,rfl,rfl⟩
 | y::r,k+1,x,h=>by have a:=TI r k x (by simpa using h);have e:(y::r).flatMap C2=.int .i64 (y.1:Int)::.string ⟨y.2.1.toArray⟩::.int .i64 (y.2.2:Int)::r.flatMap C2:=rfl;rw [e,show(k+1)*3=k*3+1+1+1 by omega];exact a
theorem aBO{base:Nat}{L:List Ln}(h:w.ownsRow base G7 3 v L.length (L.flatMap C2)):E8 w v L:=by
 rcases h.2 with⟨f,m⟩ | ⟨g,j,n,f,_,o,e,_⟩
 ·refine⟨none,0,by rw [f,m],by omega,fun k x l=>?_⟩;have:=(s_ l).1;omega
 ·refine⟨some ⟨g,0,none⟩,j,f,e,fun k x l=>⟨g,rfl,aB o,?_⟩⟩;obtain⟨a,b,c⟩:=TI L k x l
  have d:∀i u,(L.flatMap C2)[i]?=some u->w.cell? ⟨g,i,none⟩=some u:=fun i u p=>by
   have:=h.cells (g:=g) (by rw [f];rfl) i u p
   rwa [Addr.add_lit,Nat.zero_add] at this
  exact⟨d _ _ a,d _ _ b,d _ _ c⟩
theorem ON.ok{L:List Ln}{k:Sg}{b:PW}{a:PS}(h:ON M w tb mb sb gb rb L lv w3 Mk k b a)(r:J2 (m+1) b a)(c:a.ended=false)(s:(Pl.step b a).e=0) :Calls prog 82 #[.pointer (some ⟨rb,0,none⟩)] w3 fun e l=>e=.returned .nilIface/\∃d f,Hid (ON M w tb mb sb gb rb L lv l d f (Pl.step b a).W (Pl.step b a).S):=by
 obtain⟨u,t,g,i,x,j,y⟩:=r;refine(aDA Mk w3 k tb mb sb gb rb t x b a h.wd h.wd.CY.B3.nsok h.SM g i j (t_ (Nat.le_add_right _ _) y) u c).mono (fun e l z=>?_);obtain⟨v,rfl,d,f,n,D,A,⟨o,p,q⟩ | ⟨E,o,p,q⟩⟩:=z
 ·obtain⟨B,C⟩:=aDG h.own n h.nm;exact⟨p,d,f,h.AQ.trans n,A,q,B,C⟩
 ·exact absurd s o
theorem ON.err{L:List Ln}{l:Sg}{b:PW}{a:PS}(h:ON M w tb mb sb gb rb L lv w3 Mk l b a)(q:J2 (m+1) b a)(c:a.ended=false)(r:¬(Pl.step b a).e=0) :Calls prog 82 #[.pointer (some ⟨rb,0,none⟩)] w3 fun e d=>∃f,e=.returned (aY f ((Pl.step b a).e:Nat))/\∃g,Hid (Stp M w g d/\E8 d lv L):=by
 obtain⟨s,t,i,j,u,k,x⟩:=q;refine(aDA Mk w3 l tb mb sb gb rb t u b a h.wd h.wd.CY.B3.nsok h.SM i j k (t_ (Nat.le_add_right _ _) x) s c).mono (fun e d y=>?_);obtain⟨v,rfl,g,B,n,C,D,⟨o,p,z⟩ | ⟨f,o,p,z⟩⟩:=y
 ·exact absurd o r
 ·obtain⟨A,E⟩:=aDG h.own n h.nm;exact⟨f,p,g,h.AQ.trans n,aBO A⟩
theorem aCE{W:PW}{S:PS}:Pl.trace (m+1) W S=Pl.line W S::(if S.ended then [] else if(Pl.step W S).e=0 then Pl.trace m (Pl.step W S).W (Pl.step W S).S else []):=rfl
def Z3:Value->Nat
 | .slice _ n _=>n
 | _=>0
theorem aCJ(M:Nat->Prop)(w:World)(s:Sg)(tb mb q G n:Nat)(W:PW)(f:PF)(P:Value)(hW:Wd M w s tb mb q G W)(ho:W.out=[])(hf:CP M w s P f)(hI:J2 n W ⟨some f,[],.nothing,[]⟩)(hn:n<=1000000) :Calls prog 49 #[.pointer (some ⟨q,0,none⟩),P,.int .i64 (n:Int)] w fun e F=>∃lv M',e=.returned lv/\Stp M w M' F/\E8 F lv (Pl.trace n W ⟨some f,[],.nothing,[]⟩):=by
 obtain⟨i0,ab,ac,ad,ae⟩:=info_parts Tryz.infoLn;have ai:Below w.heap.size w (w.alloc (.cells (cQ q P) BT)):=b_;have R:Mv M w (Mn M (fun k=>k=w.heap.size)) (w.alloc (.cells (cQ q P) BT)):=Mv.wide _ (fun k hk=>by rw [hk];exact n_) ai (fun k hk=>by rw [hk];simp);have Y:(w.alloc (.cells (cQ q P) BT)).heap[w.heap.size]?=some (.cells (cQ q P) BT (0,0)):=heap_alloc_new w _;have Z:LO (Mn M (fun k=>k=w.heap.size)) (w.alloc (.cells (cQ q P) BT)) s q w.heap.size ⟨some f,[],.nothing,[]⟩ W.out:=by rw [ho];exact⟨P,.pointer none,.nilIface,.pointer none,.slice none 0 0,⟨Y,.inr rfl⟩,⟨hf.go R.AQ (Sg.Le.refl _),.nil⟩,rfl,⟨World.ownsRow_nil _ _ _ _,fun g hg=>by cases hg⟩⟩
 have HS:=h_ (aDB w q P hf.iface);have al:Hid (TrI M w tb mb q G w.heap.size n (Pl.trace n W ⟨some f,[],.nothing,[]⟩) [] (.slice none 0 0) (w.alloc (.cells (cQ q P) BT)) (Mn M (fun k=>k=w.heap.size)) s W ⟨some f,[],.nothing,[]⟩):=⟨R.AQ,hW.mv R,Z,Nat.zero_le _,hI,rfl,World.ownsRow_nil _ _ _ _,fun g hg=>by cases hg⟩
 have HG:=h_ hW.gs.size;obtain⟨T,x,rfl⟩:=hf.iface;clear hW ho hf hI ai R Y Z;generalize Pl.trace n W ⟨some f,[],.nothing,[]⟩=Tr at *;go_enter func49,ntmps49;go_wp2_with (go_at_call 79;refine Calls.mono HS ?_;rintro e i ⟨rfl,rfl⟩)
 go_loopw [7] (fun lv wr=>∃(L:List Ln)(H:Nat->Prop)(K:Sg)(r:PW)(l:PS),Hid (TrI M w tb mb q G w.heap.size n Tr L lv wr H K r l)) (fun lv _=>n-Z3 lv)
 case atStart=>exact⟨[],_,s,W,_,al⟩
 case round =>
  obtain⟨L,H,K,r,l,A⟩:=hrel;obtain⟨ao,B,rfl,an,_⟩:=cJ A.own;have ap:=A.len;by_cases aq:L.length<n
  ·obtain⟨m,hm⟩:∃m,n-L.length=m+1:=⟨n-L.length-1,by omega⟩
   have hI:=A.inv;have S:=A.eq;rw [hm] at hI S;rw [aCE] at S;have aj:(L.length:Int)<(n:Int):=by omega
   obtain⟨_,t,ak,af,_⟩:=id hI;have U:Hid (∀i,Below wr.heap.size wr i->Calls prog 80 #[.pointer (some ⟨w.heap.size,1,none⟩)] i fun e F=>e=.returned (.agg #[.int .i64 ((Pl.line r l).1:Int),.string ⟨(Pl.line r l).2.1.toArray⟩,.int .i64 ((Pl.line r l).2.2:Int)])/\Hid (Below wr.heap.size wr F)):=fun i hB=>(p_line H i K tb mb q G w.heap.size r l (A.wd.mv (Mv.below hB)) (A.SM.below hB) (aC2 ak) af.form af.val).mono (fun e F ⟨j1,j2⟩=>⟨j1,hB.trans (j2.mono hB.size)⟩);have ag:Hid (∀i,Below wr.heap.size wr i->i.ownsRow w.heap.size G7 3 (.slice ao L.length B) L.length (L.flatMap C2)):=fun i hB=>gA A.own (fun g hg=>hB.block g (A.own.lt g hg).2);have ah:=h_ A.AQ.size;have N:Hid (∀(i c:World)(o:Obj)(O j:Nat),Below wr.heap.size wr i->c.ownsRow w.heap.size G7 3 (.slice (some ⟨O,0,none⟩) (L.length+1) j) (L.length+1) (L.flatMap C2++C2 (Pl.line r l))->(i.alloc o).grownBy c (Value.slice ao L.length B).ownBlock->((Value.slice ao L.length B).ownBlock=some O\/O=i.heap.size+1)->ON M w tb mb q G w.heap.size (L++[Pl.line r l]) (.slice (some ⟨O,0,none⟩) (L.length+1) j) c H K r l):=fun i c o O j hB h1 h2 h3=>A.push HG hB h1 h2 (h3.imp id (fun e=>by simpa using e));have I:=h_ S;have J:=h_ hI;clear hI S ak af A;unfold C2 at N;generalize Pl.line r l=x1 at *;obtain⟨C,D,E⟩:=x1;dsimp only at U N
   cases v:l.ended with
   | true =>
    have HE:=(show Hid (∀b c,ON M w tb mb q G w.heap.size (L++[(C,D,E)]) b c H K r l->Calls prog 81 #[.pointer (some ⟨w.heap.size,1,none⟩)] c fun e F=>e=.returned (.bool true)/\c=F) from fun b c h=>by
     have:=aB2 H c K q w.heap.size l _ h.SM;rw [v] at this
     exact this)
    have y:=(show Hid (∀b c,ON M w tb mb q G w.heap.size (L++[(C,D,E)]) b c H K r l->Stp M w H c/\E8 c b Tr) from fun b c h=>by
     have e:=I.out;rw [v] at e;refine⟨h.AQ,?_⟩;rw [e]
     exact aBO h.own)
    clear I J v
    go_wp2_with (first
     | (go_at_call 80;refine Calls.mono (U _ r_) ?_;rintro e i ⟨rfl,u⟩)
     | (at_builtin;refine wpList_append_lies _ rfl _ _ 33 rfl w.heap.size 46 i0 (.agg #[.int .i64 0,.string ⟨#[]⟩,.int .i64 0]) 3 32 underlying33 ab ac ad ae rfl (by decide) (.slice ao L.length B) L.length _ rfl ((ag _ u).alloc _) ⟨i.heap.size,0,none⟩ 1 1 [.int .i64 (C:Int),.string ⟨D.toArray⟩,.int .i64 (E:Int)] rfl rfl (World.news_of_block (cs:=#[.int .i64 (C:Int),.string ⟨D.toArray⟩,.int .i64 (E:Int)]) (t:=46) (fr:=(0,0)) (heap_alloc_new i _)) (fun x hx=>by simp at hx;rcases hx with rfl | rfl | rfl<;>rfl) (by decide) (by unfold maxLen;omega) (by omega) (by have:=u.size;have:=ah.out;simp;omega) (i.heap.size+1) (by simp) ?_;intro O j c d a p _;have z:=(show Hid (ON _ _ _ _ _ _ _ _ _ _ _ _ _ _) from N.out i c _ O j u d a p);clear d a p)
     | (go_at_call 81;refine Calls.mono (HE _ _ z) ?_;rintro e w4 ⟨rfl,rfl⟩)
     | fail)
    go_ret;exact⟨_,_,rfl,y _ _ z⟩
   | false =>
    have HE:=(show Hid (∀b c,ON M w tb mb q G w.heap.size (L++[(C,D,E)]) b c H K r l->Calls prog 81 #[.pointer (some ⟨w.heap.size,1,none⟩)] c fun e F=>e=.returned (.bool false)/\c=F) from fun b c h=>by
     have:=aB2 H c K q w.heap.size l _ h.SM;rw [v] at this
     exact this)
    by_cases he:(Pl.step r l).e=0
    ·have V:Hid (∀b c,ON M w tb mb q G w.heap.size (L++[(C,D,E)]) b c H K r l->Calls prog 82 #[.pointer (some ⟨w.heap.size,0,none⟩)] c fun e F=>e=.returned .nilIface/\∃Q s2,Hid (ON M w tb mb q G w.heap.size (L++[(C,D,E)]) b F Q s2 (Pl.step r l).W (Pl.step r l).S)):=fun b c h=>h.ok J v he
     have am:=(show Hid (∀b c Q s2,ON M w tb mb q G w.heap.size (L++[(C,D,E)]) b c Q s2 (Pl.step r l).W (Pl.step r l).S->TrI M w tb mb q G w.heap.size n Tr (L++[(C,D,E)]) b c Q s2 (Pl.step r l).W (Pl.step r l).S) from fun b c Q s2 h=>by
      have el:(L++[(C,D,E)]).length=L.length+1:=by simp
      have em:n-(L.length+1)=m:=by omega
      refine⟨h.AQ,h.wd,h.SM,by omega,by rw [el,em];exact aDO J he,?_,h.own,h.nm⟩;have e:=I.out;rw [v,if_neg (by simp),if_pos he] at e;rw [el,em,e]
      simp)
     clear I J v he
     go_wp2_with (first
      | (go_at_call 80;refine Calls.mono (U _ r_) ?_;rintro e i ⟨rfl,u⟩)
      | (at_builtin;refine wpList_append_lies _ rfl _ _ 33 rfl w.heap.size 46 i0 (.agg #[.int .i64 0,.string ⟨#[]⟩,.int .i64 0]) 3 32 underlying33 ab ac ad ae rfl (by decide) (.slice ao L.length B) L.length _ rfl ((ag _ u).alloc _) ⟨i.heap.size,0,none⟩ 1 1 [.int .i64 (C:Int),.string ⟨D.toArray⟩,.int .i64 (E:Int)] rfl rfl (World.news_of_block (cs:=#[.int .i64 (C:Int),.string ⟨D.toArray⟩,.int .i64 (E:Int)]) (t:=46) (fr:=(0,0)) (heap_alloc_new i _)) (fun x hx=>by simp at hx;rcases hx with rfl | rfl | rfl<;>rfl) (by decide) (by unfold maxLen;omega) (by omega) (by have:=u.size;have:=ah.out;simp;omega) (i.heap.size+1) (by simp) ?_;intro O j c d a p _;have z:=(show Hid (ON _ _ _ _ _ _ _ _ _ _ _ _ _ _) from N.out i c _ O j u d a p);clear d a p)
      | (go_at_call 81;refine Calls.mono (HE _ _ z) ?_;rintro e w4 ⟨rfl,rfl⟩)
      | (go_at_call 82;refine Calls.mono (V _ _ z) ?_;rintro e w4 ⟨rfl,Q,s2,X⟩))
     go_roundw
     case rel=>exact⟨_,Q,s2,_,_,am _ _ _ _ X⟩
     case measure=>simp only [Z3];omega
    ·have V:=(show Hid (∀b c,ON M w tb mb q G w.heap.size (L++[(C,D,E)]) b c H K r l->Calls prog 82 #[.pointer (some ⟨w.heap.size,0,none⟩)] c fun e F=>∃es,e=.returned (aY es ((Pl.step r l).e:Nat))/\∃Q,Hid (Stp M w Q F/\E8 F b Tr)) from fun b c h=>by
      have e:=I.out;rw [v,if_neg (by simp),if_neg he] at e;rw [e]
      exact h.err J v he)
     clear I J v he;generalize (Pl.step r l).e=ec at *;unfold aY at V
     go_wp2_with (first
      | (go_at_call 80;refine Calls.mono (U _ r_) ?_;rintro e i ⟨rfl,u⟩)
      | (at_builtin;refine wpList_append_lies _ rfl _ _ 33 rfl w.heap.size 46 i0 (.agg #[.int .i64 0,.string ⟨#[]⟩,.int .i64 0]) 3 32 underlying33 ab ac ad ae rfl (by decide) (.slice ao L.length B) L.length _ rfl ((ag _ u).alloc _) ⟨i.heap.size,0,none⟩ 1 1 [.int .i64 (C:Int),.string ⟨D.toArray⟩,.int .i64 (E:Int)] rfl rfl (World.news_of_block (cs:=#[.int .i64 (C:Int),.string ⟨D.toArray⟩,.int .i64 (E:Int)]) (t:=46) (fr:=(0,0)) (heap_alloc_new i _)) (fun x hx=>by simp at hx;rcases hx with rfl | rfl | rfl<;>rfl) (by decide) (by unfold maxLen;omega) (by omega) (by have:=u.size;have:=ah.out;simp;omega) (i.heap.size+1) (by simp) ?_;intro O j c d a p _;have z:=(show Hid (ON _ _ _ _ _ _ _ _ _ _ _ _ _ _) from N.out i c _ O j u d a p);clear d a p)
      | (go_at_call 81;refine Calls.mono (HE _ _ z) ?_;rintro e w4 ⟨rfl,rfl⟩)
      | (go_at_call 82;refine Calls.mono (V _ _ z) ?_;rintro e w4 ⟨es,rfl,Q,X⟩))
     go_ret;exact⟨_,_,rfl,X.1,X.2⟩
  ·have aa:L.length=n:=by omega
   have aj:¬((L.length:Int)<(n:Int)):=by omega
   have y:Hid (Stp M w H wr/\E8 wr (.slice ao n B) Tr):=by refine⟨A.AQ,?_⟩;have e:=A.eq;rw [aa,Nat.sub_self] at e;rw [e];show E8 wr _ (L++[]);rw [List.append_nil,<-aa];exact aBO A.own
   clear A;go_wp2_with fail;go_ret;first | exact⟨_,_,rfl,y.1,y.2⟩ | exact⟨_,rfl,⟨_,y.1⟩,y.2⟩
theorem aBS{b:AE}(a:Pl.check b=0):∃f,Pl.BQ b=some f:=by
 unfold Pl.check at a;unfold Pl.BQ;split at a
 ·cases a
 cases c:Pl.BX b with
 | none=>rw [c] at a;cases a
 | some l =>
  rw [c] at a;dsimp only at a ⊢;split at a
  ·cases a
  cases d:Pl.pd l.length l with
  | none=>rw [d] at a;cases a
  | some p =>
   rw [d] at a;dsimp only at a ⊢;split at a
   ·cases a
   split at a
   ·cases a
   split at a
   ·cases a
   split at a
   ·rename_i h;rw [<- iQ,Option.isSome_iff_exists] at h;exact h
   ·cases a
def sgE:Sg:=⟨330,522,[],[],[],[],[]⟩
def MbE(mb:Nat)(k:Nat):Prop:=k=mb
theorem aB7(h:IW w1 tb mb []):BM (MbE mb) w1 sgE tb mb [] :=⟨h,⟨rfl,List.nodup_nil,fun i b p a=>by cases a⟩,rfl,fun e=>h.ne e.symm,fun k c=>by rw [show k=mb from c];exact h.lt.2⟩
structure RdB(w0:World)(tb mb:Nat)(f:PF)(t:Sg)(fv:Value)(w2:World):Prop where
 below:Below w0.heap.size w0 w2
 ns:t.ns.length<=300
 qc:t.qb=[]/\t.cb=[]
 CY:BM (MbE mb) w2 t tb mb (Pl.settle f 0).2
 fm:CP (MbE mb) w2 t fv (Pl.settle f 0).1
theorem aBD(h:Below w0.heap.size w0 w1)(a:w1.grownBy w2 (some mb))(b:w0.heap.size<=mb):Below w0.heap.size w0 w2:=h.grown a h.size (fun j c=>by obtain rfl:=i_ c;exact b)
theorem aC3(k:Below w0.heap.size w0 w1)(p:IW w1 tb mb [])(q:w0.heap.size<=mb)(g:GE w0)(x:ByteArray)(n:Int)(h:Pl.over n=false)(D:Pl.check x.data.toList=0)(f:PF)(r:Pl.BQ x.data.toList=some f) :Calls prog 48 #[.agg #[.string x,.int .i64 n],.pointer (some ⟨tb,0,none⟩)] w1 fun e l=>∃m t,e=.returned (.tuple #[m,.nilIface])/\Hid (RdB w0 tb mb f t m l):=by
 have d:GE w1:=by obtain⟨v,o,s⟩:=g;exact⟨v,(k.cell (World.block_lt_of_cell? _ _ o)).trans o,s⟩
 refine(aB0 x n _ w1 sgE tb mb [] (aB7 p) d (by unfold BS;decide)).mono (fun e l u=>?_);obtain⟨v,E,rfl,⟨i,_⟩ | ⟨_,w,t,y,z,⟨c,F,i,j,_⟩ | ⟨A,_,j,rfl,B,C⟩⟩⟩:=u
 ·rw [h] at i;cases i
 ·omega
 ·obtain rfl:f=A:=by rw [r] at j;exact i_ j
  obtain⟨⟨a,b,rfl⟩,_⟩:=y;exact⟨v,_,rfl,aBD k w q,by simpa [sgE] using z,⟨rfl,rfl⟩,B,C⟩
theorem aC4(f:Below w0.heap.size w0 w1)(o:IW w1 tb mb [])(p:w0.heap.size<=mb)(g:GE w0)(x:ByteArray)(n:Int)(c:Nat)(h:(Pl.over n=true/\c=6)\/(Pl.over n=false/\Pl.check x.data.toList=c/\c≠0)) :Calls prog 48 #[.agg #[.string x,.int .i64 n],.pointer (some ⟨tb,0,none⟩)] w1 fun e k=>∃v b,e=.returned (.tuple #[v,aY b (c:Int)])/\Hid (Below w0.heap.size w0 k):=by
 have d:GE w1:=by obtain⟨v,l,q⟩:=g;exact⟨v,(f.cell (World.block_lt_of_cell? _ _ l)).trans l,q⟩
 refine(aB0 x n _ w1 sgE tb mb [] (aB7 o) d (by unfold BS;decide)).mono (fun e k r=>?_);obtain⟨v,w,rfl,⟨i,⟨b,rfl⟩,a⟩ | ⟨m,s,t,y,z,⟨u,b,i,j,_,rfl,_⟩ | ⟨A,i,_⟩⟩⟩:=r
 ·rcases h with⟨_,rfl⟩ | ⟨j,_⟩
  ·exact⟨v,b,rfl,f.trans (a.mono f.size)⟩
  ·rw [i] at j;cases j
 ·rcases h with⟨a,_⟩ | ⟨_,a,_⟩
  ·rw [m] at a;cases a
  ·obtain rfl:c=u:=by omega
   exact⟨v,b,rfl,aBD f s p⟩
 ·rcases h with⟨a,_⟩ | ⟨_,a,B⟩
  ·rw [m] at a;cases a
  ·omega
theorem V_{f:PF}{t:Sg}(h:RdB w0 tb mb f t fv w2)(a:Gs w0 (fun _=>False))(hp:EH w0) :Calls prog 45 #[.pointer (some ⟨tb,0,none⟩)] w2 fun e c=>∃b,e=.returned (.pointer (some ⟨b.heap.size,0,none⟩))/\Hid (c=b.alloc (xM w2.heap.size)/\GQ w2 tb mb w2.heap.size t.ns 13 b) :=
 nD w2 tb mb t.ns (t_ h.ns (by decide)) (by
  obtain⟨D,_,d⟩:=h.CY.B3.map
  exact d.nodup) h.CY.B3 (hp.AQ a (Stp.AA h.below)) (t_ a.size h.below.size)
structure RnB(w0:World)(tb mb sb gb:Nat)(W:PW)(f:PF)(fv:Value)(M:Nat->Prop)(s:Sg)(w5:World):Prop where
 wd:Wd M w5 s tb mb sb gb (Pl.AR W f)
 fm:CP M w5 s fv (Pl.settle f W.pairs.length).1
 AQ:Stp (fun _=>False) w0 M w5
theorem U_{f:PF}{t:Sg}(h:RdB w0 tb mb f t fv w2)(j:Gs w0 (fun _=>False))(hp:EH w0)(l:GT w0)(o:GE w0)(Q:w0.heap.size<=mb)(p:GQ w2 tb mb w2.heap.size t.ns 13 w3)(v:Value)(ins:List (ByteArray×Int))(R:JF w0 v ins)(S:ins.length<=GK) :Calls prog 44 #[.iface 73 (.pointer (some ⟨w3.heap.size,0,none⟩)),v,.pointer (some ⟨tb,0,none⟩)] (w3.alloc (xM w2.heap.size)) fun e q=>∃r M s,e=.returned r/\Hid (RnB w0 tb mb w3.heap.size w2.heap.size (Pl.AF AW (ins.map B5)).1 f fv M s q):=by
 obtain⟨F,G⟩:=new_wd h.below j hp l o Q (fun e=>h.CY.JJ e) h.CY.B3.lt.1 h.CY.B3.lt.2 p;have u:=aB3 t.ns 13;have z:=aBB t.ns 13;unfold sgN at F;have c:Stp (MbE mb) w2 (fun k=>k=mb\/k=w2.heap.size) (w3.alloc (xM w2.heap.size)):=by obtain⟨_,_,A,H,B,T,U,_⟩:=p;refine⟨B,T,U,by simp;omega,fun k V I=>⟨(k_ (by omega)).trans (A k V I),fun e=>e.elim I (fun e=>by omega)⟩⟩
 clear p;generalize H8 t.ns 13=N at *;obtain⟨X,Y⟩:=WV R G (fun _ h=>h);refine(p_runS _ _ (sgA N) _ _ _ _ v ins (fun M w s t m W b n Z q2 A H B=>zJ M w s _ _ _ _ t m W b n Z q2 A H B) F (t_ z (by have:=h.ns;omega)) X Y S).mono (fun e q hh=>?_)
 ·obtain⟨r,J,K,e1,d,_,_⟩:=hh;have L:=d.wd;rw [List.take_length] at L;have g:Stp (MbE mb) w2 J q:=c.trans d.AQ
  have C:∀b∈t.pb,b∉K.pb:=fun b hb D=>by
   obtain⟨i,O⟩:=List.getElem?_of_mem hb;have E:=(s_ O).1;obtain⟨_,x,y,hx,_⟩:=h.CY.pairs.at_ i b _ O (g_ (by rw [<- h.CY.pairs.len];exact E));have aa:=aB hx;rcases d.le.2 b D with P | P
   ·cases P
   ·have:=c.size;omega
  obtain⟨z1,z2⟩:=L.late h.qc (h.CY.pairs.AQ g) C;have a:=Pl.MC (Pl.AF AW (ins.map B5)).1.pairs.length f 0;rw [Nat.zero_add] at a;refine⟨r,J,K.LB t.pb,e1,⟨?_,?_,G.trans d.AQ⟩⟩
  ·have:=z1.out0 [];unfold Pl.AR;rw [a];exact this
  ·rw [a];exact(h.fm.go g (Sg.Le.refl _)).sh h.qc z2 (u.trans d.le.1.ns)
theorem W_{w5:World}{ins:List (ByteArray×Int)}{f:PF}{s:Sg}(h:RnB w0 tb mb sb gb (Pl.AF AW (ins.map B5)).1 f fv M s w5)(x:ByteArray)(n:Int)(p:ins.length<=GK)(a:Pl.over n=false)(l:Pl.check x.data.toList=0)(m:Pl.BQ x.data.toList=some f) :Calls prog 49 #[.pointer (some ⟨sb,0,none⟩),fv,.int .i64 n] w5 fun e j=>∃g,e=.returned g/\Hid (Below w0.heap.size w0 j/\E8 j g (Pl.BG (Pl.AF AW (ins.map B5)).1 x.data.toList n).2):=by
 obtain⟨t,b,c⟩:=SV ins n_;rw [List.take_length] at b c;obtain⟨o,_,_⟩:=aDN (i:=(x.data.toList,n)) b c (aC5 n_ p) f a l m;have q:(Pl.BG (Pl.AF AW (ins.map B5)).1 x.data.toList n).2=Pl.trace n.toNat (Pl.AR (Pl.AF AW (ins.map B5)).1 f) (Pl.AV (Pl.AF AW (ins.map B5)).1 f):=by unfold Pl.BG;rw [if_neg (by simp [a]),if_neg (by simp [l]),m]
 rw [q];have r:0<=n/\n<=1000000:=by unfold Pl.over at a;simp at a;omega
 obtain⟨k,rfl⟩:∃k:Nat,n=(k:Int):=⟨n.toNat,by omega⟩
 simp only [Int.toNat_natCast] at o ⊢;refine(aCJ M w5 s tb mb sb gb k _ _ fv h.wd rfl h.fm o (by omega)).mono (fun e j u=>?_);obtain⟨g,A,v,w,y⟩:=u;have d:=h.AQ.trans w;exact⟨g,v,⟨d.os,d.tape,d.output,d.size,fun k z=>(d.block k z (fun h=>h)).1⟩,y⟩
theorem aD1(h:GT w)(a:Below w.heap.size w w1):GT w1:=(a.cell (World.block_lt_of_cell? _ _ h)).trans h
theorem XB(w:World)(v:Value)(ins:List (ByteArray×Int))(x:ByteArray)(n:Int)(P:JF w v ins)(K:ins.length<=GK)(B:8<=w.heap.size)(m:Lib.TabIs prog w oS .u64 Lib.pow10Tab)(hp:EH w)(u:GT w)(o:GE w) :Calls prog 23 #[v,.string x,.int .i64 n] w fun e b=>∃q,e=.returned (.tuple #[q,.int .i64 ((Pl.BG (Pl.AF AW (ins.map B5)).1 x.data.toList n).1:Int)])/\Below w.heap.size w b/\E8 b q (Pl.BG (Pl.AF AW (ins.map B5)).1 x.data.toList n).2:=by
 have z:Gs w (fun _=>False):=⟨B,fun _ _ h=>h,m⟩
 have W:=h_ (sE w)
 have C:∀c:Nat,((Pl.over n=true/\c=6)\/(Pl.over n=false/\Pl.check x.data.toList=c/\c≠0))->Pl.BG (Pl.AF AW (ins.map B5)).1 x.data.toList n=(c,[])->Calls prog 23 #[v,.string x,.int .i64 n] w fun e b=>∃q,e=.returned (.tuple #[q,.int .i64 ((Pl.BG (Pl.AF AW (ins.map B5)).1 x.data.toList n).1:Int)])/\Below w.heap.size w b/\E8 b q (Pl.BG (Pl.AF AW (ins.map B5)).1 x.data.toList n).2:=fun c r F=>by
  rw [F];have A:Hid (∀g,Below w.heap.size w g/\IW g (w.heap.size+1) w.heap.size []->Calls prog 48 #[.agg #[.string x,.int .i64 n],.pointer (some ⟨w.heap.size+1,0,none⟩)] g fun e b=>∃v E,e=.returned (.tuple #[v,aY E (c:Int)])/\Hid (Below w.heap.size w b)):=fun g ⟨G,H⟩=>aC4 G H n_ o x n c r;have I:Hid (∀E g,Below w.heap.size w g->Calls prog 42 #[aY E (c:Int)] g fun e b=>e=.returned (.int .i64 (c:Int))/\Hid (Below w.heap.size w b)):=fun E g Q=>(aCA E c g (aD1 u Q)).mono (fun e b ⟨G,H⟩=>⟨G,Q.trans (H.mono Q.size)⟩);obtain⟨Y,R,rfl,_,_⟩:=P;clear B m hp u o z K r F;unfold aY at A I;go_enter func23,ntmps23
  go_wp2_with (first
   | (go_at_call 41;refine Calls.mono W ?_;rintro e g ⟨rfl,D⟩)
   | (go_at_call 48;refine Calls.mono (A _ D) ?_;rintro e a ⟨d,E,rfl,p⟩)
   | (go_at_call 42;refine Calls.mono (I _ _ p) ?_;rintro e i ⟨rfl,S⟩))
  go_ret2;exact⟨_,rfl,S,none,0,rfl,n_,fun k x Z=>by cases Z⟩
 by_cases l:Pl.over n=true
 ·exact C 6 (.inl ⟨l,rfl⟩) (by unfold Pl.BG;rw [if_pos l])
 have j:Pl.over n=false:=by simpa using l
 by_cases r:Pl.check x.data.toList=0
 ·obtain⟨f,L⟩:=aBS r;have F:(Pl.BG (Pl.AF AW (ins.map B5)).1 x.data.toList n).1=0:=by unfold Pl.BG;rw [if_neg l,if_neg (by simp [r]),L]
  rw [F];have A:Hid (∀g,Below w.heap.size w g/\IW g (w.heap.size+1) w.heap.size []->Calls prog 48 #[.agg #[.string x,.int .i64 n],.pointer (some ⟨w.heap.size+1,0,none⟩)] g fun e b=>∃d t,e=.returned (.tuple #[d,.nilIface])/\Hid (RdB w (w.heap.size+1) w.heap.size f t d b)):=fun g ⟨G,H⟩=>aC3 G H n_ o x n j r f L;have HN:Hid (∀a t d,RdB w (w.heap.size+1) w.heap.size f t d a->Calls prog 45 #[.pointer (some ⟨w.heap.size+1,0,none⟩)] a fun e b=>∃i,e=.returned (.pointer (some ⟨i.heap.size,0,none⟩))/\Hid (b=i.alloc (xM a.heap.size)/\GQ a (w.heap.size+1) w.heap.size a.heap.size t.ns 13 i)):=fun a t d h=>V_ h z hp;have HR:Hid (∀a i N t d,RdB w (w.heap.size+1) w.heap.size f t d a->N=i.alloc (xM a.heap.size)/\GQ a (w.heap.size+1) w.heap.size a.heap.size t.ns 13 i->Calls prog 44 #[.iface 73 (.pointer (some ⟨i.heap.size,0,none⟩)),v,.pointer (some ⟨w.heap.size+1,0,none⟩)] N fun e b=>∃X M s,e=.returned X/\Hid (RnB w (w.heap.size+1) w.heap.size i.heap.size a.heap.size (Pl.AF AW (ins.map B5)).1 f d M s b)):=fun a i N t d h ⟨h3,h4⟩=>by subst h3;exact U_ h z hp u o n_ h4 v ins P K
  have HF:Hid (∀a i O d M s,RnB w (w.heap.size+1) w.heap.size i a (Pl.AF AW (ins.map B5)).1 f d M s O->Calls prog 49 #[.pointer (some ⟨i,0,none⟩),d,.int .i64 n] O fun e b=>∃q,e=.returned q/\Hid (Below w.heap.size w b/\E8 b q (Pl.BG (Pl.AF AW (ins.map B5)).1 x.data.toList n).2)):=fun a i O d M s h=>W_ h x n K j r L;have HI:Hid (∀a t d,RdB w (w.heap.size+1) w.heap.size f t d a->∃T y,d=.iface T y):=fun a t d h=>h.fm.iface;obtain⟨Y,R,rfl,_,_⟩:=P;clear B m hp u o z K l j r L C F;generalize (Pl.BG (Pl.AF AW (ins.map B5)).1 x.data.toList n).2=T2 at *;generalize (Pl.AF AW (ins.map B5)).1=W2 at *;go_enter func23,ntmps23
  go_wp2_with (first
   | (go_at_call 41;refine Calls.mono W ?_;rintro e g ⟨rfl,D⟩)
   | (go_at_call 48;refine Calls.mono (A _ D) ?_;rintro e a ⟨d,t,rfl,p⟩;obtain⟨Tf,xf,rfl⟩:=HI.out _ _ _ p)
   | (go_at_call 45;refine Calls.mono (HN _ _ _ p) ?_;rintro e N ⟨i,rfl,U⟩)
   | (go_at_call 44;refine Calls.mono (HR _ _ _ _ _ p U) ?_;rintro e O ⟨X,M,s,rfl,V⟩)
   | (go_at_call 49;refine Calls.mono (HF _ _ _ _ _ _ V) ?_;rintro e w6 ⟨q,rfl,J⟩))
  go_ret2;exact⟨q,rfl,J.1,J.2⟩
 ·exact C _ (.inr ⟨j,rfl,r⟩) (by unfold Pl.BG;rw [if_neg l,if_pos r])
end
end Go.Proofs.YtkgbdddkcjpgfaaGreatDoor
