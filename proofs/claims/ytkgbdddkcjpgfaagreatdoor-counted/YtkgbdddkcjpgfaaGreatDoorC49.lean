import Derived.Test.YtkgbdddkcjpgfaaGreatDoorC27
import Derived.Test.YtkgbdddkcjpgfaaGreatDoorC35
import Derived.Test.YtkgbdddkcjpgfaaGreatDoorC44
import Derived.Test.YtkgbdddkcjpgfaaGreatDoorC48
import Derived.Test.YtkgbdddkcjpgfaaGreatDoorC40
namespace Go.Proofs.YtkgbdddkcjpgfaaGreatDoor
set_option maxHeartbeats 4000000
set_option maxRecDepth 100000
open Go.Proofs.Tryz
open Pl (PV PW PS PF Byt)
section
open Go.RowKit Go.Lib Go.Maps
variable {w w3:World} {M Mk:Nat->Prop} {sb tb mb gb rb m:Nat} {v lv:Value}
theorem RV.sh{s t:Sg}{c:Nat}(hq:s.qb=[]/\s.cb=[])(hp:∀i b,s.pb[i]?=some b->t.pb[i+c]?=some b){p:PV}(h:RV s v p):RV t v (Pl.shV c p):=by
 cases h with
 | num n=>exact .num n
 | truth b=>exact .truth b
 | name t=>exact .name t
 | empty=>exact .empty
 | nothing=>exact .nothing
 | pair i b h=>exact .pair (i+c) b (hp i b h)
 | proc i b h=>rw [hq.1] at h;cases h
 | cont i b h=>rw [hq.2] at h;cases h
 | prim k t h hk=>exact .prim k t h hk
 | callcc=>exact .callcc
theorem RFm.sh{s t:Sg}{c:Nat}(hq:s.qb=[]/\s.cb=[])(hp:∀i b,s.pb[i]?=some b->t.pb[i+c]?=some b)(hn:s.ns <+: t.ns){f:PF}(h:RFm M w s v f):RFm M w t v (Pl.shF c f):=by
 induction h with
 | const x q nm d v ks ns h hi =>rw [Pl.shF_mk,if_pos rfl,if_pos rfl];exact .const x q nm d _ _ ns (h.sh hq hp) hi
 | name k nm d v ks ns h =>rw [Pl.shF_mk,if_neg (by simp),if_neg (by simp)];exact .name k nm d v _ ns (bS hn h)
 | iff a b e x y z nm d v ns _ _ _ i1 i2 i3 =>rw [Pl.shF_mk,if_neg (by simp),if_neg (by simp),Pl.shL_cons,Pl.shL_cons,Pl.shL_cons,Pl.shL_nil];exact .iff a b e _ _ _ nm d v ns i1 i2 i3
 | begin sl us nm d v ks ns h1 h2 _ h4 h5 ih =>
  rw [Pl.shF_mk,if_neg (by simp),if_neg (by simp)]
  exact .begin sl us nm d v _ ns (by rw [Pl.shL_len];exact h1) (by rw [Pl.shL_len];exact h2) (fun i u x hu hx=>by
   obtain⟨g,k1,rfl⟩:=Pl.shL_get c ks i x hx
   exact ih i u g hu k1) (by rw [Pl.shL_len];exact h4) (by rw [Pl.shL_len];exact h5)
 | call sl us nm d v ks ns h1 h2 _ h4 h5 ih =>
  rw [Pl.shF_mk,if_neg (by simp),if_neg (by simp)]
  exact .call sl us nm d v _ ns (by rw [Pl.shL_len];exact h1) (by rw [Pl.shL_len];exact h2) (fun i u x hu hx=>by
   obtain⟨g,k1,rfl⟩:=Pl.shL_get c ks i x hx
   exact ih i u g hu k1) (by rw [Pl.shL_len];exact h4) (by rw [Pl.shL_len];exact h5)
 | set k a x nm d v ns h _ ih =>rw [Pl.shF_mk,if_neg (by simp),if_neg (by simp),Pl.shL_cons,Pl.shL_nil];exact .set k a _ nm d v ns (bS hn h) ih
 | define k a x nm d v ns h _ ih =>rw [Pl.shF_mk,if_neg (by simp),if_neg (by simp),Pl.shL_cons,Pl.shL_nil];exact .define k a _ nm d v ns (bS hn h) ih
 | lambda sl a x nm d v ns h1 _ ih =>rw [Pl.shF_mk,if_neg (by simp),if_neg (by simp),Pl.shL_cons,Pl.shL_nil];obtain⟨⟨ks,j1,j2⟩,j3,j4⟩:=h1;exact .lambda sl a _ nm d v ns ⟨⟨ks,j1.mono (fun k t ht=>bS hn ht),j2⟩,j3,j4⟩ ih
def Sg.addPbs(s:Sg)(l:List Nat):Sg:={s with pb:=s.pb++l}
theorem Sg.addPbs_le(s:Sg)(l:List Nat):Sg.Le s (s.addPbs l):=⟨rfl,rfl,List.prefix_append _ _,List.prefix_refl _,List.prefix_refl _,List.prefix_refl _,List.prefix_refl _⟩
theorem Wd.late{s s1:Sg}{W:PW}{ps:List (PV×PV)}(h:Wd M w s tb mb sb gb W)(hq:s1.qb=[]/\s1.cb=[])(hP:PairsAt M w s1 ps)(hd:∀b∈s1.pb,b∉s.pb) :Wd M w (s.addPbs s1.pb) tb mb sb gb {W with pairs:=W.pairs++ps.map (Pl.shP W.pairs.length)}/\∀i b,s1.pb[i]?=some b->(s.addPbs s1.pb).pb[i+W.pairs.length]?=some b:=by
 have l:=s.addPbs_le s1.pb;have hlen:=h.rdr.pairs.len;have hp:∀i b,s1.pb[i]?=some b->(s.addPbs s1.pb).pb[i+W.pairs.length]?=some b:=fun i b hb=>by show(s.pb++s1.pb)[i+W.pairs.length]?=some b;rw [List.getElem?_append_right (by omega),show i+W.pairs.length-s.pb.length=i by omega];exact hb
 refine⟨⟨⟨h.rdr.tab,⟨?_,?_,fun i b p hb hi=>?_⟩,h.rdr.mmb,h.rdr.mtb,h.rdr.mlt⟩,h.ses,h.msb,?_,h.mgb,h.gne,h.procs.mono (fun b x hx=>hx.go (Stp.refl _ _) l),h.conts.mono (fun b x hx=>hx.go (Stp.refl _ _) l),h.places.le l rfl,h.gs,h.prm,h.gt,h.ge,h.tq,h.tc⟩,hp⟩
 ·show(s.pb++s1.pb).length=(W.pairs++ps.map _).length;rw [List.length_append,List.length_append,List.length_map,hlen,hP.len]
 ·show(s.pb++s1.pb).Nodup;rw [List.nodup_append];refine⟨h.rdr.pairs.nodup,hP.nodup,fun a ha b hb=>?_⟩;rintro rfl;exact hd a hb ha
 ·have hb':(s.pb++s1.pb)[i]?=some b:=hb;have hi':(W.pairs++ps.map (Pl.shP W.pairs.length))[i]?=some p:=hi;rcases Nat.lt_or_ge i s.pb.length with hl | hl
  ·rw [List.getElem?_append_left hl] at hb';rw [List.getElem?_append_left (by omega)] at hi';obtain⟨h1,x,y,h2,h3,h4⟩:=h.rdr.pairs.at_ i b p hb' hi';exact⟨h1,x,y,h2,h3.le l,h4.le l⟩
  ·rw [List.getElem?_append_right hl] at hb';rw [List.getElem?_append_right (by omega),<-hlen,List.getElem?_map,Option.map_eq_some_iff] at hi';obtain⟨q,hq1,rfl⟩:=hi';obtain⟨h1,x,y,h2,h3,h4⟩:=hP.at_ _ b q hb' hq1;rw [hlen];exact⟨h1,x,y,h2,h3.sh hq hp,h4.sh hq hp⟩
 ·obtain⟨D,h1,h2⟩:=h.glob;exact⟨D,h1,h2.le l rfl rfl rfl⟩
abbrev Ln:=Nat×Byt×Nat
def n2(x:Ln):List Value:=[.int .i64 (x.1:Int),.string ⟨x.2.1.toArray⟩,.int .i64 (x.2.2:Int)]
theorem p_line(M:Nat->Prop)(w:World)(s:Sg)(tb mb sb gb rb:Nat)(W:PW)(S:PS)(hW:Wd M w s tb mb sb gb W)(hSt:Sta M w s sb rb S W.out)(hP:WfQ W)(hf:∀f,S.form=some f->WfF W f)(hv:S.form=none->WfV W S.val) :Calls prog 80 #[.pointer (some ⟨rb,1,none⟩)] w fun e w'=>e=.returned (.agg #[.int .i64 ((Pl.line W S).1:Int),.string ⟨(Pl.line W S).2.1.toArray⟩,.int .i64 ((Pl.line W S).2.2:Int)])/\Below w.heap.size w w':=by
 obtain⟨fv,ev,gv,kv,ov,hr,hfo,hfr,_⟩:=hSt.ex;have hct:∀w1,Below w.heap.size w w1->Calls prog 127 #[kv] w1 fun e w'=>e=.returned (.int .i64 (S.frames.length:Int))/\w1=w':=fun w1 hB=>yK w1 kv _ (hfr.pileN.below hB);unfold FormO at hfo
 cases hform:S.form with
 | some f =>
  rw [hform] at hfo;have hl:Pl.line W S=(1,Pl.cut (Pl.fT W.pairs f),S.frames.length):=by unfold Pl.line;rw [hform]
  rw [hl];obtain⟨T,x,rfl⟩:=hfo.1.iface;exact aCK w rb _ ev gv kv ov T x _ _ hr.blk hfr.ptr (fun w1 hB=>aD0 hP (hW.lie hB) (Stp.of_below (cX w1 _ _ (Nat.le_refl _))) (hfo.1.go (Stp.of_below hB) (Sg.Le.refl _)) (hf f hform)) hct
 | none =>
  rw [hform] at hfo;have hl:Pl.line W S=(2,Pl.cut (Pl.text W.pairs S.val),S.frames.length):=by unfold Pl.line;rw [hform]
  rw [hl];obtain⟨rfl,hgv⟩:=hfo;obtain⟨T,x,rfl⟩:=hgv.iface;exact aCL w rb _ ev kv ov T x _ _ hr.blk hfr.ptr (fun w1 hB=>hH W hP s w1 _ S.val (hW.lie hB) hgv (hv hform)) hct
theorem nRun:TRun≠TOc/\TRun≠TLn:=by unfold TRun TOc TLn;decide
theorem nBy:TBy≠TOc/\TBy≠TLn:=by unfold TBy TOc TLn;decide
theorem Sta.sto{w':World}{s:Sg}{S:PS}{out:Byt}(h:Sta M w s sb rb S out)(hs:Sto w w'):Sta M w' s sb rb S out:=by
 obtain⟨fv,ev,gv,kv,ov,hr,hfo,hfr,ho⟩:=h.ex;refine⟨fv,ev,gv,kv,ov,⟨hs.cells hr.blk nRun,hr.mrb⟩,?_,hfr.sto hs,ho.keep (fun g cur fz hm hg=>⟨(hs.cells hg nBy).trans hg.symm,hm⟩)⟩;unfold FormO at hfo ⊢
 cases hform:S.form with
 | some f =>rw [hform] at hfo;exact⟨hfo.1.sto hs,hfo.2.sto hs⟩
 | none =>rw [hform] at hfo;exact hfo
structure TrI(M:Nat->Prop)(w:World)(tb mb sb gb rb n:Nat)(T L:List Ln)(lv:Value)(wr:World)(Mk:Nat->Prop)(sk:Sg)(Wk:PW)(Sk:PS):Prop where
 stp:Stp M w Mk wr
 wd:Wd Mk wr sk tb mb sb gb Wk
 sta:Sta Mk wr sk sb rb Sk Wk.out
 len:L.length<=n
 inv:InvZ (n-L.length) Wk Sk
 eq:T=L++Pl.trace (n-L.length) Wk Sk
 own:wr.ownsRow w.heap.size TLn 3 lv L.length (L.flatMap n2)
 nm:∀g,lv.ownBlock=some g->¬Mk g
structure TrP(M:Nat->Prop)(w:World)(tb mb sb gb rb:Nat)(L:List Ln)(lv:Value)(wr:World)(Mk:Nat->Prop)(sk:Sg)(Wk:PW)(Sk:PS):Prop where
 stp:Stp M w Mk wr
 wd:Wd Mk wr sk tb mb sb gb Wk
 sta:Sta Mk wr sk sb rb Sk Wk.out
 own:wr.ownsRow w.heap.size TLn 3 lv L.length (L.flatMap n2)
 nm:∀g,lv.ownBlock=some g->¬Mk g
theorem TrI.push{n:Nat}{T L:List Ln}{wr:World}{sk:Sg}{Wk:PW}{Sk:PS}(h:TrI M w tb mb sb gb rb n T L lv wr Mk sk Wk Sk)(hg:8<=w.heap.size){w1:World}{o:Obj}{g3 cap3:Nat}{x:Ln}
  (hB:Below wr.heap.size wr w1) (hown:w3.ownsRow w.heap.size TLn 3 (.slice (some ⟨g3,0,none⟩) (L.length+1) cap3) (L.length+1) (L.flatMap n2++n2 x)) (hgr:(w1.alloc o).grownBy w3 lv.ownBlock) (hat:lv.ownBlock=some g3\/g3=(w1.alloc o).heap.size) :
  TrP M w tb mb sb gb rb (L++[x]) (.slice (some ⟨g3,0,none⟩) (L.length+1) cap3) w3 Mk sk Wk Sk:=by
 have hBo:Below wr.heap.size wr (w1.alloc o):=hB.alloc hB.size o;have hgl:∀g,lv.ownBlock=some g->w.heap.size<=g/\g<wr.heap.size:=fun g e=>h.own.lt g e;have hsz:wr.heap.size<=(w1.alloc o).heap.size:=hBo.size;have hws:=h.stp.size
 have hsto:Sto (w1.alloc o) w3:=by
  refine⟨hgr.size,fun k ob hk hx=>(hgr.block k (aB hk) (fun e=>?_)).trans hk,fun k hk=>hgr.block k (by omega) (fun e=>by have:=hgl k e.symm;omega)⟩;rcases h.own.2 with⟨hv,_⟩ | ⟨g,cap,cur,hv,_,hc,_⟩
  ·rw [hv] at e;cases e
  ·rw [hv] at e;obtain rfl:k=g:=Option.some.inj e;have:=(hBo.block k (aB hc)).trans hc;rw [this] at hk;exact hx cur TLn _ (.inr rfl) (Option.some.inj hk).symm
 refine⟨⟨hgr.os.trans (hBo.os.trans h.stp.os),hgr.tape.trans (hBo.tape.trans h.stp.tape),hgr.output.trans (hBo.output.trans h.stp.output),Nat.le_trans hws (Nat.le_trans hsz hgr.size),fun k hk hm=>?_⟩,(h.wd.mv (Mv.below hBo)).sto hsto,(h.sta.below hBo).sto hsto,?_,fun g e=>?_⟩
 ·obtain⟨e1,e2⟩:=h.stp.block k hk hm;exact⟨(hgr.block k (by omega) (fun e=>by have:=hgl k e.symm;omega)).trans ((hBo.block k (by omega)).trans e1),e2⟩
 ·rw [List.flatMap_append,List.length_append];simpa using hown
 ·obtain rfl:g3=g:=Option.some.inj e;rcases hat with hat | hat
  ·exact h.nm _ hat
  ·intro hm;have:=h.wd.rdr.mlt _ hm;omega
theorem aDG{M':Nat->Prop}{w':World}{base:Nat}{T:TypeId}{sz:Nat}{n:Nat}{xs:List Value}(h:w.ownsRow base T sz v n xs)(hs:Stp M w M' w')(hm:∀g,v.ownBlock=some g->¬M g):w'.ownsRow base T sz v n xs/\∀g,v.ownBlock=some g->¬M' g :=⟨gA h (fun g hg=>(hs.block g (h.lt g hg).2 (hm g hg)).1),fun g hg=>(hs.block g (h.lt g hg).2 (hm g hg)).2⟩
theorem Tryz.infoLn:(prog.info? 46).map (fun i=>(i.zero,i.size,i.bytes))=some (some (.agg #[.int .i64 0,.string ⟨#[]⟩,.int .i64 0]),3,32):=by kernel_rfl
def LnAt(w:World)(v:Value)(L:List Ln):Prop:=∃ao cap,v=.slice ao L.length cap/\L.length<=cap/\∀(k:Nat)(x:Ln),L[k]?=some x->∃g,ao=some ⟨g,0,none⟩/\g<w.heap.size/\w.cell? ⟨g,k*3,none⟩=some (.int .i64 (x.1:Int))/\w.cell? ⟨g,k*3+1,none⟩=some (.string ⟨x.2.1.toArray⟩)/\w.cell? ⟨g,k*3+2,none⟩=some (.int .i64 (x.2.2:Int))
theorem ln_get:∀(L:List Ln)(k:Nat)(x:Ln),L[k]?=some x->(L.flatMap n2)[k*3]?=some (.int .i64 (x.1:Int))/\(L.flatMap n2)[k*3+1]?=some (.string ⟨x.2.1.toArray⟩)/\(L.flatMap n2)[k*3+2]?=some (.int .i64 (x.2.2:Int))
 | [],k,x,h=>by cases h
 | y::r,0,x,h=>by obtain rfl:=Option.some.inj h;exact⟨rfl,rfl,rfl⟩
 | y::r,k+1,x,h=>by have ih:=ln_get r k x (by simpa using h);have e:(y::r).flatMap n2=.int .i64 (y.1:Int)::.string ⟨y.2.1.toArray⟩::.int .i64 (y.2.2:Int)::r.flatMap n2:=rfl;rw [e,show(k+1)*3=k*3+1+1+1 by omega];exact ih
theorem aBO{base:Nat}{L:List Ln}(h:w.ownsRow base TLn 3 v L.length (L.flatMap n2)):LnAt w v L:=by
 rcases h.2 with⟨hv,h0⟩ | ⟨g,cap,cur,hv,_,hc,hcap,_⟩
 ·refine⟨none,0,by rw [hv,h0],by omega,fun k x hk=>?_⟩;have:=(List.getElem?_eq_some_iff.1 hk).1;omega
 ·refine⟨some ⟨g,0,none⟩,cap,hv,hcap,fun k x hk=>⟨g,rfl,aB hc,?_⟩⟩;obtain⟨a,b,c⟩:=ln_get L k x hk
  have at_:∀i u,(L.flatMap n2)[i]?=some u->w.cell? ⟨g,i,none⟩=some u:=fun i u hu=>by
   have:=h.cells (g:=g) (by rw [hv];rfl) i u hu
   rwa [Addr.add_lit,Nat.zero_add] at this
  exact⟨at_ _ _ a,at_ _ _ b,at_ _ _ c⟩
theorem TrP.ok{L:List Ln}{sk:Sg}{Wk:PW}{Sk:PS}(h:TrP M w tb mb sb gb rb L lv w3 Mk sk Wk Sk)(hI:InvZ (m+1) Wk Sk)(hne:Sk.ended=false)(he:(Pl.step Wk Sk).e=0) :Calls prog 82 #[.pointer (some ⟨rb,0,none⟩)] w3 fun e w'=>e=.returned .nilIface/\∃M2 s2,Hid (TrP M w tb mb sb gb rb L lv w' M2 s2 (Pl.step Wk Sk).W (Pl.step Wk Sk).S):=by
 obtain⟨ho,t,hww,hsw,m2,hm2,ht⟩:=hI;refine(aDA Mk w3 sk tb mb sb gb rb t m2 Wk Sk h.wd h.wd.rdr.tab.nsok h.sta hww hsw hm2 (Nat.le_trans (Nat.le_add_right _ _) ht) ho hne).mono (fun e w' hh=>?_);obtain⟨v,rfl,M2,s2,k1,k2,k3,⟨k4,k5,k6⟩ | ⟨es,k4,k5,k6⟩⟩:=hh
 ·obtain⟨o1,o2⟩:=aDG h.own k1 h.nm;exact⟨k5,M2,s2,h.stp.trans k1,k3,k6,o1,o2⟩
 ·exact absurd he k4
theorem TrP.err{L:List Ln}{sk:Sg}{Wk:PW}{Sk:PS}(h:TrP M w tb mb sb gb rb L lv w3 Mk sk Wk Sk)(hI:InvZ (m+1) Wk Sk)(hne:Sk.ended=false)(he:¬(Pl.step Wk Sk).e=0) :Calls prog 82 #[.pointer (some ⟨rb,0,none⟩)] w3 fun e w'=>∃es,e=.returned (aY es ((Pl.step Wk Sk).e:Nat))/\∃M2,Hid (Stp M w M2 w'/\LnAt w' lv L):=by
 obtain⟨ho,t,hww,hsw,m2,hm2,ht⟩:=hI;refine(aDA Mk w3 sk tb mb sb gb rb t m2 Wk Sk h.wd h.wd.rdr.tab.nsok h.sta hww hsw hm2 (Nat.le_trans (Nat.le_add_right _ _) ht) ho hne).mono (fun e w' hh=>?_);obtain⟨v,rfl,M2,s2,k1,k2,k3,⟨k4,k5,k6⟩ | ⟨es,k4,k5,k6⟩⟩:=hh
 ·exact absurd k4 he
 ·obtain⟨o1,o2⟩:=aDG h.own k1 h.nm;exact⟨es,k5,M2,h.stp.trans k1,aBO o1⟩
theorem aCE{W:PW}{S:PS}:Pl.trace (m+1) W S=Pl.line W S::(if S.ended then [] else if(Pl.step W S).e=0 then Pl.trace m (Pl.step W S).W (Pl.step W S).S else []):=rfl
def slLen:Value->Nat
 | .slice _ n _=>n
 | _=>0
theorem aCJ(M:Nat->Prop)(w:World)(s:Sg)(tb mb sb gb n:Nat)(W:PW)(f:PF)(fv:Value)(hW:Wd M w s tb mb sb gb W)(ho:W.out=[])(hf:RFm M w s fv f)(hI:InvZ n W ⟨some f,[],.nothing,[]⟩)(hn:n<=1000000) :Calls prog 49 #[.pointer (some ⟨sb,0,none⟩),fv,.int .i64 (n:Int)] w fun e w'=>∃lv M',e=.returned lv/\Stp M w M' w'/\LnAt w' lv (Pl.trace n W ⟨some f,[],.nothing,[]⟩):=by
 obtain⟨i0,hi0,hz0,hz1,hz2⟩:=info_parts Tryz.infoLn;have hB1:Below w.heap.size w (w.alloc (.cells (cQ sb fv) TRun)):=(Below.refl _ _).alloc (Nat.le_refl _) _;have hmv:Mv M w (Mn M (fun k=>k=w.heap.size)) (w.alloc (.cells (cQ sb fv) TRun)):=Mv.wide _ (fun k hk=>by rw [hk];exact Nat.le_refl _) hB1 (fun k hk=>by rw [hk];simp);have hblk:(w.alloc (.cells (cQ sb fv) TRun)).heap[w.heap.size]?=some (.cells (cQ sb fv) TRun (0,0)):=heap_alloc_new w _;have hsta:Sta (Mn M (fun k=>k=w.heap.size)) (w.alloc (.cells (cQ sb fv) TRun)) s sb w.heap.size ⟨some f,[],.nothing,[]⟩ W.out:=by rw [ho];exact⟨fv,.pointer none,.nilIface,.pointer none,.slice none 0 0,⟨hblk,.inr rfl⟩,⟨hf.go hmv.stp (Sg.Le.refl _),.nil⟩,rfl,⟨World.ownsRow_nil _ _ _ _,fun g hg=>by cases hg⟩⟩
 have HS:Hid (Calls prog 79 #[.pointer (some ⟨sb,0,none⟩),fv] w fun e w'=>e=.returned (.pointer (some ⟨w.heap.size,0,none⟩))/\w'=w.alloc (.cells (cQ sb fv) TRun)):=aDB w sb fv hf.iface;have HI0:Hid (TrI M w tb mb sb gb w.heap.size n (Pl.trace n W ⟨some f,[],.nothing,[]⟩) [] (.slice none 0 0) (w.alloc (.cells (cQ sb fv) TRun)) (Mn M (fun k=>k=w.heap.size)) s W ⟨some f,[],.nothing,[]⟩):=⟨hmv.stp,hW.mv hmv,hsta,Nat.zero_le _,hI,rfl,World.ownsRow_nil _ _ _ _,fun g hg=>by cases hg⟩
 have HG:Hid (8<=w.heap.size):=hW.gs.size;obtain⟨T,x,rfl⟩:=hf.iface;clear hW ho hf hI hB1 hmv hblk hsta;generalize Pl.trace n W ⟨some f,[],.nothing,[]⟩=Tr at *;go_enter func49,ntmps49;go_wp2_with (go_at_call 79;refine Calls.mono HS.out ?_;rintro e w1 ⟨rfl,rfl⟩)
 go_loopw [7] (fun lv wr=>∃(L:List Ln)(Mk:Nat->Prop)(sk:Sg)(Wk:PW)(Sk:PS),Hid (TrI M w tb mb sb gb w.heap.size n Tr L lv wr Mk sk Wk Sk)) (fun lv _=>n-slLen lv)
 case atStart=>exact⟨[],_,s,W,_,HI0⟩
 case round =>
  obtain⟨L,Mk,sk,Wk,Sk,HF⟩:=hrel;obtain⟨ao,cap,rfl,hcap,_⟩:=cJ HF.out.own;have hle:=HF.out.len;by_cases hlt:L.length<n
  ·obtain⟨m,hm⟩:∃m,n-L.length=m+1:=⟨n-L.length-1,by omega⟩
   have hI:=HF.out.inv;have hEq:=HF.out.eq;rw [hm] at hI hEq;rw [aCE] at hEq;have hlt2:(L.length:Int)<(n:Int):=by omega
   obtain⟨_,t,hww,hsw,_⟩:=id hI;have HLn:Hid (∀w1,Below wr.heap.size wr w1->Calls prog 80 #[.pointer (some ⟨w.heap.size,1,none⟩)] w1 fun e w'=>e=.returned (.agg #[.int .i64 ((Pl.line Wk Sk).1:Int),.string ⟨(Pl.line Wk Sk).2.1.toArray⟩,.int .i64 ((Pl.line Wk Sk).2.2:Int)])/\Hid (Below wr.heap.size wr w')):=fun w1 hB=>(p_line Mk w1 sk tb mb sb gb w.heap.size Wk Sk (HF.out.wd.mv (Mv.below hB)) (HF.out.sta.below hB) (aC2 hww) hsw.form hsw.val).mono (fun e w' ⟨j1,j2⟩=>⟨j1,hB.trans (j2.mono hB.size)⟩);have HOw:Hid (∀w1,Below wr.heap.size wr w1->w1.ownsRow w.heap.size TLn 3 (.slice ao L.length cap) L.length (L.flatMap n2)):=fun w1 hB=>gA HF.out.own (fun g hg=>hB.block g (HF.out.own.lt g hg).2);have HSz:Hid (w.heap.size<=wr.heap.size):=HF.out.stp.size;have HPu:Hid (∀(w1 w3:World)(o:Obj)(g3 cap3:Nat),Below wr.heap.size wr w1->w3.ownsRow w.heap.size TLn 3 (.slice (some ⟨g3,0,none⟩) (L.length+1) cap3) (L.length+1) (L.flatMap n2++n2 (Pl.line Wk Sk))->(w1.alloc o).grownBy w3 (Value.slice ao L.length cap).ownBlock->((Value.slice ao L.length cap).ownBlock=some g3\/g3=w1.heap.size+1)->TrP M w tb mb sb gb w.heap.size (L++[Pl.line Wk Sk]) (.slice (some ⟨g3,0,none⟩) (L.length+1) cap3) w3 Mk sk Wk Sk):=fun w1 w3 o g3 cap3 hB h1 h2 h3=>HF.out.push HG.out hB h1 h2 (h3.imp id (fun e=>by simpa using e));have HEq:Hid (Tr=L++Pl.line Wk Sk::(if Sk.ended then [] else if(Pl.step Wk Sk).e=0 then Pl.trace m (Pl.step Wk Sk).W (Pl.step Wk Sk).S else [])):=hEq;have HIv:Hid (InvZ (m+1) Wk Sk):=hI;clear hI hEq hww hsw HF;unfold n2 at HPu;generalize Pl.line Wk Sk=x1 at *;obtain⟨a1,t1,c1⟩:=x1;dsimp only at HLn HPu
   cases hen:Sk.ended with
   | true =>
    have HE:=(show Hid (∀lv3 w3,TrP M w tb mb sb gb w.heap.size (L++[(a1,t1,c1)]) lv3 w3 Mk sk Wk Sk->Calls prog 81 #[.pointer (some ⟨w.heap.size,1,none⟩)] w3 fun e w'=>e=.returned (.bool true)/\w3=w') from fun lv3 w3 h=>by
     have:=aB2 Mk w3 sk sb w.heap.size Sk _ h.sta;rw [hen] at this
     exact this)
    have HFin:=(show Hid (∀lv3 w3,TrP M w tb mb sb gb w.heap.size (L++[(a1,t1,c1)]) lv3 w3 Mk sk Wk Sk->Stp M w Mk w3/\LnAt w3 lv3 Tr) from fun lv3 w3 h=>by
     have e:=HEq.out;rw [hen] at e;refine⟨h.stp,?_⟩;rw [e]
     exact aBO h.own)
    clear HEq HIv hen
    go_wp2_with (first
     | (go_at_call 80;refine Calls.mono (HLn.out _ (Below.refl _ _)) ?_;rintro e w1 ⟨rfl,HB1⟩)
     | (at_builtin;refine wpList_append_lies _ rfl _ _ 33 rfl w.heap.size 46 i0 (.agg #[.int .i64 0,.string ⟨#[]⟩,.int .i64 0]) 3 32 underlying33 hi0 hz0 hz1 hz2 rfl (by decide) (.slice ao L.length cap) L.length _ rfl ((HOw.out _ HB1.out).alloc _) ⟨w1.heap.size,0,none⟩ 1 1 [.int .i64 (a1:Int),.string ⟨t1.toArray⟩,.int .i64 (c1:Int)] rfl rfl (World.news_of_block (cs:=#[.int .i64 (a1:Int),.string ⟨t1.toArray⟩,.int .i64 (c1:Int)]) (t:=46) (fr:=(0,0)) (heap_alloc_new w1 _)) (fun x hx=>by simp at hx;rcases hx with rfl | rfl | rfl<;>rfl) (by decide) (by unfold maxLen;omega) (by omega) (by have:=HB1.out.size;have:=HSz.out;simp;omega) (w1.heap.size+1) (by simp) ?_;intro g3 cap3 w3 hown3 hgrow3 hat3 _;have HP3:=(show Hid (TrP _ _ _ _ _ _ _ _ _ _ _ _ _ _) from HPu.out w1 w3 _ g3 cap3 HB1.out hown3 hgrow3 hat3);clear hown3 hgrow3 hat3)
     | (go_at_call 81;refine Calls.mono (HE.out _ _ HP3.out) ?_;rintro e w4 ⟨rfl,rfl⟩)
     | fail)
    go_ret;exact⟨_,_,rfl,HFin.out _ _ HP3.out⟩
   | false =>
    have HE:=(show Hid (∀lv3 w3,TrP M w tb mb sb gb w.heap.size (L++[(a1,t1,c1)]) lv3 w3 Mk sk Wk Sk->Calls prog 81 #[.pointer (some ⟨w.heap.size,1,none⟩)] w3 fun e w'=>e=.returned (.bool false)/\w3=w') from fun lv3 w3 h=>by
     have:=aB2 Mk w3 sk sb w.heap.size Sk _ h.sta;rw [hen] at this
     exact this)
    by_cases he:(Pl.step Wk Sk).e=0
    ·have HSt:Hid (∀lv3 w3,TrP M w tb mb sb gb w.heap.size (L++[(a1,t1,c1)]) lv3 w3 Mk sk Wk Sk->Calls prog 82 #[.pointer (some ⟨w.heap.size,0,none⟩)] w3 fun e w'=>e=.returned .nilIface/\∃M2 s2,Hid (TrP M w tb mb sb gb w.heap.size (L++[(a1,t1,c1)]) lv3 w' M2 s2 (Pl.step Wk Sk).W (Pl.step Wk Sk).S)):=fun lv3 w3 h=>h.ok HIv.out hen he
     have HNx:=(show Hid (∀lv3 w3 M2 s2,TrP M w tb mb sb gb w.heap.size (L++[(a1,t1,c1)]) lv3 w3 M2 s2 (Pl.step Wk Sk).W (Pl.step Wk Sk).S->TrI M w tb mb sb gb w.heap.size n Tr (L++[(a1,t1,c1)]) lv3 w3 M2 s2 (Pl.step Wk Sk).W (Pl.step Wk Sk).S) from fun lv3 w3 M2 s2 h=>by
      have el:(L++[(a1,t1,c1)]).length=L.length+1:=by simp
      have em:n-(L.length+1)=m:=by omega
      refine⟨h.stp,h.wd,h.sta,by omega,by rw [el,em];exact aDO HIv.out he,?_,h.own,h.nm⟩;have e:=HEq.out;rw [hen,if_neg (by simp),if_pos he] at e;rw [el,em,e]
      simp)
     clear HEq HIv hen he
     go_wp2_with (first
      | (go_at_call 80;refine Calls.mono (HLn.out _ (Below.refl _ _)) ?_;rintro e w1 ⟨rfl,HB1⟩)
      | (at_builtin;refine wpList_append_lies _ rfl _ _ 33 rfl w.heap.size 46 i0 (.agg #[.int .i64 0,.string ⟨#[]⟩,.int .i64 0]) 3 32 underlying33 hi0 hz0 hz1 hz2 rfl (by decide) (.slice ao L.length cap) L.length _ rfl ((HOw.out _ HB1.out).alloc _) ⟨w1.heap.size,0,none⟩ 1 1 [.int .i64 (a1:Int),.string ⟨t1.toArray⟩,.int .i64 (c1:Int)] rfl rfl (World.news_of_block (cs:=#[.int .i64 (a1:Int),.string ⟨t1.toArray⟩,.int .i64 (c1:Int)]) (t:=46) (fr:=(0,0)) (heap_alloc_new w1 _)) (fun x hx=>by simp at hx;rcases hx with rfl | rfl | rfl<;>rfl) (by decide) (by unfold maxLen;omega) (by omega) (by have:=HB1.out.size;have:=HSz.out;simp;omega) (w1.heap.size+1) (by simp) ?_;intro g3 cap3 w3 hown3 hgrow3 hat3 _;have HP3:=(show Hid (TrP _ _ _ _ _ _ _ _ _ _ _ _ _ _) from HPu.out w1 w3 _ g3 cap3 HB1.out hown3 hgrow3 hat3);clear hown3 hgrow3 hat3)
      | (go_at_call 81;refine Calls.mono (HE.out _ _ HP3.out) ?_;rintro e w4 ⟨rfl,rfl⟩)
      | (go_at_call 82;refine Calls.mono (HSt.out _ _ HP3.out) ?_;rintro e w4 ⟨rfl,M2,s2,HP4⟩))
     go_roundw
     case rel=>exact⟨_,M2,s2,_,_,HNx.out _ _ _ _ HP4.out⟩
     case measure=>simp only [slLen];omega
    ·have HSt:=(show Hid (∀lv3 w3,TrP M w tb mb sb gb w.heap.size (L++[(a1,t1,c1)]) lv3 w3 Mk sk Wk Sk->Calls prog 82 #[.pointer (some ⟨w.heap.size,0,none⟩)] w3 fun e w'=>∃es,e=.returned (aY es ((Pl.step Wk Sk).e:Nat))/\∃M2,Hid (Stp M w M2 w'/\LnAt w' lv3 Tr)) from fun lv3 w3 h=>by
      have e:=HEq.out;rw [hen,if_neg (by simp),if_neg he] at e;rw [e]
      exact h.err HIv.out hen he)
     clear HEq HIv hen he;generalize (Pl.step Wk Sk).e=ec at *;unfold aY at HSt
     go_wp2_with (first
      | (go_at_call 80;refine Calls.mono (HLn.out _ (Below.refl _ _)) ?_;rintro e w1 ⟨rfl,HB1⟩)
      | (at_builtin;refine wpList_append_lies _ rfl _ _ 33 rfl w.heap.size 46 i0 (.agg #[.int .i64 0,.string ⟨#[]⟩,.int .i64 0]) 3 32 underlying33 hi0 hz0 hz1 hz2 rfl (by decide) (.slice ao L.length cap) L.length _ rfl ((HOw.out _ HB1.out).alloc _) ⟨w1.heap.size,0,none⟩ 1 1 [.int .i64 (a1:Int),.string ⟨t1.toArray⟩,.int .i64 (c1:Int)] rfl rfl (World.news_of_block (cs:=#[.int .i64 (a1:Int),.string ⟨t1.toArray⟩,.int .i64 (c1:Int)]) (t:=46) (fr:=(0,0)) (heap_alloc_new w1 _)) (fun x hx=>by simp at hx;rcases hx with rfl | rfl | rfl<;>rfl) (by decide) (by unfold maxLen;omega) (by omega) (by have:=HB1.out.size;have:=HSz.out;simp;omega) (w1.heap.size+1) (by simp) ?_;intro g3 cap3 w3 hown3 hgrow3 hat3 _;have HP3:=(show Hid (TrP _ _ _ _ _ _ _ _ _ _ _ _ _ _) from HPu.out w1 w3 _ g3 cap3 HB1.out hown3 hgrow3 hat3);clear hown3 hgrow3 hat3)
      | (go_at_call 81;refine Calls.mono (HE.out _ _ HP3.out) ?_;rintro e w4 ⟨rfl,rfl⟩)
      | (go_at_call 82;refine Calls.mono (HSt.out _ _ HP3.out) ?_;rintro e w4 ⟨es,rfl,M2,HP4⟩))
     go_ret;exact⟨_,_,rfl,HP4.out.1,HP4.out.2⟩
  ·have hle2:L.length=n:=by omega
   have hlt2:¬((L.length:Int)<(n:Int)):=by omega
   have HFin:Hid (Stp M w Mk wr/\LnAt wr (.slice ao n cap) Tr):=by refine⟨HF.out.stp,?_⟩;have e:=HF.out.eq;rw [hle2,Nat.sub_self] at e;rw [e];show LnAt wr _ (L++[]);rw [List.append_nil,<-hle2];exact aBO HF.out.own
   clear HF;go_wp2_with fail;go_ret;first | exact⟨_,_,rfl,HFin.out.1,HFin.out.2⟩ | exact⟨_,rfl,⟨_,HFin.out.1⟩,HFin.out.2⟩
end
end Go.Proofs.YtkgbdddkcjpgfaaGreatDoor
