import Derived.Test.YtkgbdddkcjpgfaaGreatDoorC33
import Derived.Test.YtkgbdddkcjpgfaaGreatDoorC34
namespace Go.Proofs.YtkgbdddkcjpgfaaGreatDoor
set_option maxHeartbeats 1000000
set_option maxRecDepth 100000
open Go.Proofs.Tryz
open Pl (PV PW PS PFr SR prim2 prim1 consW displayW)
section
open Go.RowKit Go.Lib Go.Maps
variable {M:Nat->Prop} {w w0:World} {tb mb sb gb rb:Nat} {fv ev gv kv ov av:Value} {us:List Value}
def tF(W:PW)(S:PS)(fs:List PFr)(args:List PV):SR:=match args with
 | [a]=>⟨0,W,{S with frames:=fs}.give a⟩
 | _=>⟨10,W,S⟩
theorem aAL{W:PW}{S:PS}{fs:List PFr}{args:List PV}(h:args.length≠1):tF W S fs args=⟨10,W,S⟩:=by
 match args,h with
 | [],_=>rfl
 | [_],h=>exact absurd rfl h
 | _::_::_,_=>rfl
theorem o8(M:Nat->Prop)(w0 w:World)(s:Sg)(tb mb sb gb rb:Nat)(W:PW)(S:PS)(fv ev gv kv ov av:Value)(us:List Value)(args:List PV)(h:Ap M w0 w s tb mb sb gb rb W S fv ev gv kv ov av us args)(b:Nat)(fs:List PFr)(hq:ContAt M w0 s b fs) :Calls prog 395 #[.pointer (some ⟨rb,0,none⟩),.pointer (some ⟨b,0,none⟩),av] w fun e w'=>Went M w0 s tb mb sb gb rb (tF W S fs args) e w':=by
 have hrb:=h.rb_blk;have hrl:=aB hrb;obtain⟨hmb,kc,hbl,hfr⟩:=hq;have hb2:=(h.below.block b (aB hbl)).trans hbl;have c0:w.cell? ⟨b,0,none⟩=some kc:=aA hb2 0;obtain⟨ao,cap,rfl,hcap,hargs⟩:=h.args;have hck:=fun w'=>gR ⟨#[97,32,99,111,110,116,105,110,117,97,116,105,111,110]⟩ 1 ao us.length cap w' (by omega) (by decide);have hul:=h.vals.1;by_cases hne:us.length=1
 ·obtain⟨u,rfl⟩:∃u,us=[u]:=List.length_eq_one_iff.1 hne;obtain⟨a,rfl⟩:∃a,args=[a]:=List.length_eq_one_iff.1 (by rw [<- hul];exact hne);have hua:RV s u a:=h.vals.2 0 u a rfl rfl;obtain⟨g,off,cur,rfl,hg0,hg,hcur⟩:=hargs (by simp);have d0:w.cell? ⟨g,off,none⟩=some u:=(aA hg off).trans (by have:=hcur 0 u rfl;simpa using this);have hgr:g≠rb:=fun e=>by subst e;have:=aB h.run.blk;omega
  have hgl:=aB hg
  have HC:Hid (∀w' cp,cp=cap->Calls prog 298 #[.string ⟨#[97,32,99,111,110,116,105,110,117,97,116,105,111,110]⟩,.int .i64 1,.slice (some ⟨g,off,none⟩) 1 cp] w' fun e w2=>w'=w2/\e=.returned .nilIface):=fun w' cp hcp=>by
   subst hcp;refine Calls.mono (hck w') (fun e w2 ⟨h1,h2⟩=>⟨h1,?_⟩);rcases h2 with⟨_,h2⟩ | ⟨h2,_⟩
   ·exact h2
   ·exact absurd rfl h2
  have e4:w.cell? ⟨rb,4,none⟩=some kv:=aA hrb 4;have f4:w.frozen? ⟨rb,4,none⟩=false:=aF hrb 4;have hch:=RunCh.set hrb 4 kc rfl;have HX:Hid (∀w2,RunCh (w.setCell ⟨rb,4,none⟩ kc) rb #[.pointer (some ⟨sb,0,none⟩),.nilIface,.pointer none,u,kc,ov] w2->Went M w0 s tb mb sb gb rb (tF W S fs [a]) (.returned .nilIface) w2):=fun w2 hc=>by have hc':=(hch.trans hc).after h.below;exact eH (S':={S with frames:=fs}.give a) h.wd h.run.blk h.run.mrb hc' (fun _=>eX (S:={S with frames:=fs}) hua) (fun hs=>hfr.go hs (Sg.Le.refl _)) h.out
  have HG:Hid (∀w1:World,w1.heap[rb]?=(w.setCell ⟨rb,4,none⟩ kc).heap[rb]? -> Calls prog 169 #[.pointer (some ⟨rb,1,none⟩),u] w1 fun e w'=>e=.returned (.tuple #[])/\RunCh w1 rb #[.pointer (some ⟨sb,0,none⟩),.nilIface,.pointer none,u,kc,ov] w'):=fun w1 h1=>jF w1 rb _ _ _ _ _ _ u (h1.trans hch.blk) hua.iface;have d0':(w.setCell ⟨rb,4,none⟩ kc).cell? ⟨g,off,none⟩=some u:=(World.cell?_of_block (w:=w) (hch.other g hgl hgr)).trans d0;obtain⟨ok,rfl⟩:=hfr.ptr;obtain⟨T,x,rfl⟩:=hua.iface;clear h hrb hbl hb2 hfr hargs hck hua hg hcur hch hul hne;go_enter func395,ntmps395;go_wp2_with (go_at_call 298;refine(HC.out _ _ rfl).mono ?_;rintro e w' ⟨rfl,rfl⟩);go_region_with (go_at_call 169;refine(HG.out _ (by rfl)).mono ?_;rintro e w3 ⟨rfl,hc3⟩)
  all_goals
   go_wp2_with fail
   go_ret;exact HX.out _ (hc3.after ((Below.refl _ _).drew))
 ·have HC:Hid (∀w' cp,cp=cap->Calls prog 298 #[.string ⟨#[97,32,99,111,110,116,105,110,117,97,116,105,111,110]⟩,.int .i64 1,.slice ao us.length cp] w' fun e w2=>w'=w2/\∃es,e=.returned (aY es 10)):=fun w' cp hcp=>by
   subst hcp;refine Calls.mono (hck w') (fun e w2 ⟨h1,h2⟩=>⟨h1,?_⟩);rcases h2 with⟨h2,_⟩ | ⟨_,h2⟩
   ·exact absurd h2 hne
   ·exact h2
  have HX:Hid (∀es,Went M w0 s tb mb sb gb rb (tF W S fs args) (.returned (aY es 10)) w):=fun es=>by rw [aAL (by rw [<- hul];exact hne)];exact h.no (Below.refl _ _) (by decide)
  clear h hrb hbl hb2 hfr hargs hck hul hne;go_enter func395,ntmps395;go_wp2_with (go_at_call 298;refine(HC.out _ _ rfl).mono ?_;rintro e w' ⟨rfl,es,rfl⟩;unfold aY);go_ret;exact HX.out es
theorem Tryz.vq_prim(v:Value)(w:World):(Instr.typeAssert (.iface 246 v) 161 330 true).run prog w=.ok (.tuple #[.pointer none,.bool false]) w:=by kernel_rfl
theorem Tryz.vc_prim(v:Value)(w:World):(Instr.typeAssert (.iface 246 v) 161 522 true).run prog w=.ok (.tuple #[.pointer none,.bool false]) w:=by kernel_rfl
theorem Tryz.vq_callcc(v:Value)(w:World):(Instr.typeAssert (.iface 243 v) 161 330 true).run prog w=.ok (.tuple #[.pointer none,.bool false]) w:=by kernel_rfl
theorem Tryz.vc_callcc(v:Value)(w:World):(Instr.typeAssert (.iface 243 v) 161 522 true).run prog w=.ok (.tuple #[.pointer none,.bool false]) w:=by kernel_rfl
theorem Tryz.vq_num(v:Value)(w:World):(Instr.typeAssert (.iface 294 v) 161 330 true).run prog w=.ok (.tuple #[.pointer none,.bool false]) w:=by kernel_rfl
theorem Tryz.vc_num(v:Value)(w:World):(Instr.typeAssert (.iface 294 v) 161 522 true).run prog w=.ok (.tuple #[.pointer none,.bool false]) w:=by kernel_rfl
theorem Tryz.vq_truth(v:Value)(w:World):(Instr.typeAssert (.iface 296 v) 161 330 true).run prog w=.ok (.tuple #[.pointer none,.bool false]) w:=by kernel_rfl
theorem Tryz.vc_truth(v:Value)(w:World):(Instr.typeAssert (.iface 296 v) 161 522 true).run prog w=.ok (.tuple #[.pointer none,.bool false]) w:=by kernel_rfl
theorem Tryz.vq_name(v:Value)(w:World):(Instr.typeAssert (.iface 297 v) 161 330 true).run prog w=.ok (.tuple #[.pointer none,.bool false]) w:=by kernel_rfl
theorem Tryz.vc_name(v:Value)(w:World):(Instr.typeAssert (.iface 297 v) 161 522 true).run prog w=.ok (.tuple #[.pointer none,.bool false]) w:=by kernel_rfl
theorem Tryz.vq_empty(v:Value)(w:World):(Instr.typeAssert (.iface 366 v) 161 330 true).run prog w=.ok (.tuple #[.pointer none,.bool false]) w:=by kernel_rfl
theorem Tryz.vc_empty(v:Value)(w:World):(Instr.typeAssert (.iface 366 v) 161 522 true).run prog w=.ok (.tuple #[.pointer none,.bool false]) w:=by kernel_rfl
theorem Tryz.vq_nothing(v:Value)(w:World):(Instr.typeAssert (.iface 299 v) 161 330 true).run prog w=.ok (.tuple #[.pointer none,.bool false]) w:=by kernel_rfl
theorem Tryz.vc_nothing(v:Value)(w:World):(Instr.typeAssert (.iface 299 v) 161 522 true).run prog w=.ok (.tuple #[.pointer none,.bool false]) w:=by kernel_rfl
theorem Tryz.vq_pair(v:Value)(w:World):(Instr.typeAssert (.iface 367 v) 161 330 true).run prog w=.ok (.tuple #[.pointer none,.bool false]) w:=by kernel_rfl
theorem Tryz.vc_pair(v:Value)(w:World):(Instr.typeAssert (.iface 367 v) 161 522 true).run prog w=.ok (.tuple #[.pointer none,.bool false]) w:=by kernel_rfl
theorem Tryz.vk_prim(v:Value)(w:World):(Instr.typeAssert (.iface 246 v) 161 243 true).run prog w=.ok (.tuple #[.agg #[],.bool false]) w:=by kernel_rfl
theorem Tryz.vk_num(v:Value)(w:World):(Instr.typeAssert (.iface 294 v) 161 243 true).run prog w=.ok (.tuple #[.agg #[],.bool false]) w:=by kernel_rfl
theorem Tryz.vk_truth(v:Value)(w:World):(Instr.typeAssert (.iface 296 v) 161 243 true).run prog w=.ok (.tuple #[.agg #[],.bool false]) w:=by kernel_rfl
theorem Tryz.vk_name(v:Value)(w:World):(Instr.typeAssert (.iface 297 v) 161 243 true).run prog w=.ok (.tuple #[.agg #[],.bool false]) w:=by kernel_rfl
theorem Tryz.vk_empty(v:Value)(w:World):(Instr.typeAssert (.iface 366 v) 161 243 true).run prog w=.ok (.tuple #[.agg #[],.bool false]) w:=by kernel_rfl
theorem Tryz.vk_nothing(v:Value)(w:World):(Instr.typeAssert (.iface 299 v) 161 243 true).run prog w=.ok (.tuple #[.agg #[],.bool false]) w:=by kernel_rfl
theorem Tryz.vk_pair(v:Value)(w:World):(Instr.typeAssert (.iface 367 v) 161 243 true).run prog w=.ok (.tuple #[.agg #[],.bool false]) w:=by kernel_rfl
theorem Tryz.vp_num(v:Value)(w:World):(Instr.typeAssert (.iface 294 v) 161 246 true).run prog w=.ok (.tuple #[.int .i64 0,.bool false]) w:=by kernel_rfl
theorem Tryz.vp_truth(v:Value)(w:World):(Instr.typeAssert (.iface 296 v) 161 246 true).run prog w=.ok (.tuple #[.int .i64 0,.bool false]) w:=by kernel_rfl
theorem Tryz.vp_name(v:Value)(w:World):(Instr.typeAssert (.iface 297 v) 161 246 true).run prog w=.ok (.tuple #[.int .i64 0,.bool false]) w:=by kernel_rfl
theorem Tryz.vp_empty(v:Value)(w:World):(Instr.typeAssert (.iface 366 v) 161 246 true).run prog w=.ok (.tuple #[.int .i64 0,.bool false]) w:=by kernel_rfl
theorem Tryz.vp_nothing(v:Value)(w:World):(Instr.typeAssert (.iface 299 v) 161 246 true).run prog w=.ok (.tuple #[.int .i64 0,.bool false]) w:=by kernel_rfl
theorem Tryz.vp_pair(v:Value)(w:World):(Instr.typeAssert (.iface 367 v) 161 246 true).run prog w=.ok (.tuple #[.int .i64 0,.bool false]) w:=by kernel_rfl
theorem Tryz.vq_q(v:Value)(w:World):(Instr.typeAssert (.iface 330 v) 161 330 true).run prog w=.ok (.tuple #[v,.bool true]) w:=by kernel_rfl
theorem Tryz.vq_c(v:Value)(w:World):(Instr.typeAssert (.iface 522 v) 161 330 true).run prog w=.ok (.tuple #[.pointer none,.bool false]) w:=by kernel_rfl
theorem Tryz.vc_c(v:Value)(w:World):(Instr.typeAssert (.iface 522 v) 161 522 true).run prog w=.ok (.tuple #[v,.bool true]) w:=by kernel_rfl
theorem Tryz.vk_k(v:Value)(w:World):(Instr.typeAssert (.iface 243 v) 161 243 true).run prog w=.ok (.tuple #[v,.bool true]) w:=by kernel_rfl
theorem Tryz.vp_p(v:Value)(w:World):(Instr.typeAssert (.iface 246 v) 161 246 true).run prog w=.ok (.tuple #[v,.bool true]) w:=by kernel_rfl
def PA(M:Nat->Prop)(w0:World)(s:Sg)(tb mb sb gb rb:Nat)(fv ev gv kv:Value)(r:SR)(v1 e1:Value)(w':World):Prop :=
 (e1=.nilIface/\(∃T x,v1=.iface T x)/\∃ov',w'.heap[rb]?=some (.cells #[.pointer (some ⟨sb,0,none⟩),fv,ev,gv,kv,ov'] TRun (0,0))/\∀w2,RunCh w' rb #[.pointer (some ⟨sb,0,none⟩),.nilIface,.pointer none,v1,kv,ov'] w2->Went M w0 s tb mb sb gb rb r (.returned .nilIface) w2) \/
 (∃es,∃c:Nat,e1=aY es c/\v1=.nilIface/\Went M w0 s tb mb sb gb rb r (.returned (aY es c)) w')
theorem aU(M:Nat->Prop)(w0 w:World)(s:Sg)(tb mb sb gb rb:Nat)(fv ev gv kv:Value)(k:Nat)(ao:Option Addr)(n cap:Nat)(r:SR)
  (hA:Calls prog 314 #[.int .i64 (k:Int),.slice ao n cap,.pointer (some ⟨rb,5,none⟩)] w fun e w'=>∃v1 e1,e=.returned (.tuple #[v1,e1])/\PA M w0 s tb mb sb gb rb fv ev gv kv r v1 e1 w') :
  Calls prog 392 #[.pointer (some ⟨rb,0,none⟩),.iface 246 (.int .i64 (k:Int)),.slice ao n cap] w fun e w'=>Went M w0 s tb mb sb gb rb r e w':=by
 have HA:Hid (Calls prog 314 #[.int .i64 (k:Int),.slice ao n cap,.pointer (some ⟨rb,5,none⟩)] w fun e w'=>∃v1 e1,e=.returned (.tuple #[v1,e1])/\PA M w0 s tb mb sb gb rb fv ev gv kv r v1 e1 w'):=hA;have a1:=Tryz.vq_prim;have a2:=Tryz.vc_prim;have a3:=Tryz.vk_prim;have a4:=Tryz.vp_p;clear hA;go_enter func392,ntmps392
 go_upto_region 14 with(go_at_call 314;refine Calls.mono HA.out ?_;rintro e w2 ⟨v1,e1,rfl,HQ⟩)
 rcases HQ with⟨rfl,⟨T,x,rfl⟩,ov',hb,hW⟩ | ⟨es,c,rfl,rfl,hW⟩
 ·have HG:Hid (Calls prog 169 #[.pointer (some ⟨rb,1,none⟩),.iface T x] w2 fun e w'=>e=.returned (.tuple #[])/\RunCh w2 rb #[.pointer (some ⟨sb,0,none⟩),.nilIface,.pointer none,.iface T x,kv,ov'] w'):=jF w2 rb _ _ _ _ _ _ _ hb ⟨_,_,rfl⟩;have HW:Hid (∀w3,RunCh w2 rb #[.pointer (some ⟨sb,0,none⟩),.nilIface,.pointer none,.iface T x,kv,ov'] w3->Went M w0 s tb mb sb gb rb r (.returned .nilIface) w3):=hW;clear hW hb;go_wp2_with (go_at_call 169;refine Calls.mono HG.out ?_;rintro e w3 ⟨rfl,hc3⟩);go_ret;exact HW.out _ hc3
 ·have HW:Hid (Went M w0 s tb mb sb gb rb r (.returned (aY es c)) w2):=hW;clear hW;unfold aY;go_wp2_with fail;go_ret;exact HW.out
theorem Ap.pure{w2:World}{s:Sg}{W:PW}{S:PS}{args:List PV}(h:Ap M w0 w s tb mb sb gb rb W S fv ev gv kv ov av us args)(hB:Below w.heap.size w w2){rf:PS->SR}{e:Ending}(hq:PrQ W s rf e):∃v1 e1,e=.returned (.tuple #[v1,e1])/\PA M w0 s tb mb sb gb rb fv ev gv kv (rf S) v1 e1 w2:=by
 have hB02:=h.below.trans (hB.mono h.below.size);rcases hq with⟨v,q,rfl,hv,hr⟩ | ⟨es,c,hc,rfl,hr⟩
 ·refine⟨v,_,rfl,.inl ⟨rfl,hv.iface,ov,(hB02.block rb (aB h.run.blk)).trans h.run.blk,fun w3 hc=>?_⟩⟩;rw [hr];exact eH h.wd h.run.blk h.run.mrb (hc.after hB02) (fun _=>eX hv) (fun hs=>h.fr.go hs (Sg.Le.refl _)) h.out
 ·refine⟨_,_,rfl,.inr ⟨es,c,rfl,rfl,?_⟩⟩;rw [hr];exact iG h.wd h.run h.out hB02 hc
theorem Wd.addPair{s:Sg}{W:PW}(h:Wd M w s tb mb sb gb W){x y:Value}{p:PV×PV}(hx:RV s x p.1)(hy:RV s y p.2):Wd M (w.alloc (.cells #[x,y] TPair)) (s.addPair w.heap.size) tb mb sb gb {W with pairs:=W.pairs++[p]}/\RV (s.addPair w.heap.size) (.iface 367 (.pointer (some ⟨w.heap.size,0,none⟩))) (.pair W.pairs.length):=by have hB:Below w.heap.size w (w.alloc (.cells #[x,y] TPair)):=(Below.refl _ _).alloc (Nat.le_refl _) _;have h':=h.mv (Mv.below hB);have l:=s.addPair_le w.heap.size;obtain⟨k1,k2⟩:=h.rdr.pairs.push h.rdr.mlt hx hy;refine⟨⟨⟨h'.rdr.tab,k1,h'.rdr.mmb,h'.rdr.mtb,h'.rdr.mlt⟩,h'.ses,h'.msb,?_,h'.mgb,h'.gne,h'.procs.mono (fun b x hx=>hx.go (Stp.refl _ _) l),h'.conts.mono (fun b x hx=>hx.go (Stp.refl _ _) l),h'.places.le l rfl,h'.gs,h'.prm,h'.gt,h'.ge,h'.tq,h'.tc⟩,k2⟩;obtain⟨D,h1,h2⟩:=h'.glob;exact⟨D,h1,h2.le l rfl rfl rfl⟩
theorem Ap.cons{wa:World}{s:Sg}{W:PW}{S:PS}{args:List PV}(h:Ap M w0 w s tb mb sb gb rb W S fv ev gv kv ov av us args)(hB:Below w.heap.size w wa){x y:Value}{a b:PV}(hx:RV s x a)(hy:RV s y b):PA M w0 s tb mb sb gb rb fv ev gv kv (prim2 W S consW a b) (.iface 367 (.pointer (some ⟨wa.heap.size,0,none⟩))) .nilIface (wa.alloc (.cells #[x,y] TPair)):=by
 have hB02:=h.below.trans (hB.mono h.below.size);have hrl:=aB h.run.blk;obtain⟨k1,k2⟩:=(h.wd.mv (Mv.below hB02)).addPair (p:=(a,b)) hx hy;have hB3:Below w0.heap.size w0 (wa.alloc (.cells #[x,y] TPair)):=hB02.alloc hB02.size _;refine .inl ⟨rfl,⟨_,_,rfl⟩,ov,(hB3.block rb hrl).trans h.run.blk,fun w3 hc=>?_⟩;have hr:prim2 W S consW a b=⟨0,{W with pairs:=W.pairs++[(a,b)]},S.give (.pair W.pairs.length)⟩:=if_pos rfl;rw [hr]
 exact iF (W:=W) h.run h.fr h.out (Kept.of_below hB3 hrl) (s.addPair_le _) ⟨rfl,fun b hb=>by
  rcases List.mem_append.1 hb with hb | hb
  ·exact .inl hb
  ·exact .inr (by rw [List.mem_singleton.1 hb];exact hB02.size)⟩ k1 rfl k2 rfl hc
theorem Ap.disp{w':World}{s:Sg}{W:PW}{S:PS}{args:List PV}(h:Ap M w0 w s tb mb sb gb rb W S fv ev gv kv ov av us args){a:PV}{e:Ending}(hd:DispQ W w rb 5 ov W.out a e w'):∃v1 e1,e=.returned (.tuple #[v1,e1])/\PA M w0 s tb mb sb gb rb fv ev gv kv (prim1 W S displayW a) v1 e1 w':=by
 have hp:prim1 W S displayW a=if W.out.length+(Pl.cut (Pl.text W.pairs a)).length<=1000 then⟨0,{W with out:=W.out++Pl.cut (Pl.text W.pairs a)},S.give .nothing⟩ else⟨11,W,S⟩:=if_pos rfl;rcases hd with⟨h1,h2,es,rfl⟩ | ⟨h1,rfl,wa,h2,v',w1,hown,hgr,hnew,rfl⟩
 ·refine⟨_,_,rfl,.inr ⟨es,11,rfl,rfl,?_⟩⟩;rw [hp,if_neg (by omega)];exact h.no h2 (by decide)
 ·have hB:=h.below.trans (h2.mono h.below.size);have hrl:=aB h.run.blk;have hrb:=(hB.block rb hrl).trans h.run.blk;have hra:rb<wa.heap.size:=aB hrb
  have hne:some rb≠ov.ownBlock:=fun e=>by
   rcases h.out.1.2 with⟨rfl,_⟩ | ⟨g,cap,cur,rfl,_,hg,_⟩
   ·cases e
   ·simp only [Value.ownBlock,Option.some.injEq] at e;subst e;rw [h.run.blk] at hg;simp only [Option.some.injEq,Obj.cells.injEq] at hg;exact absurd hg.2.1 (by decide)
  have hrb1:=(hgr.block rb hra hne).trans hrb
  have hnv:∀g,v'.ownBlock=some g->g≠rb:=fun g hg e=>by
   subst e;rcases hown.2 with⟨rfl,_⟩ | ⟨g',cap,cur,rfl,_,hg',_⟩
   ·cases hg
   ·simp only [Value.ownBlock,Option.some.injEq] at hg;subst hg;rw [hrb1] at hg';simp only [Option.some.injEq,Obj.cells.injEq] at hg';exact absurd hg'.2.1 (by decide)
  have same:∀k,k<w0.heap.size->k≠rb->some k≠ov.ownBlock->(w1.setCell ⟨rb,5,none⟩ v').heap[k]?=w0.heap[k]? := fun k hk e1 e2=>by rw [Below.heap_setCell _ _ _ _ (fun x=>e1 (by simpa using x)),hgr.block k (Nat.lt_of_lt_of_le hk hB.size) e2];exact hB.block k hk
  have hmv:Mv M w0 (Mn M (fun k=>v'.ownBlock=some k/\w0.heap.size<=k)) (w1.setCell ⟨rb,5,none⟩ v'):=by
   refine⟨⟨hgr.os.trans hB.os,hgr.tape.trans hB.tape,hgr.output.trans hB.output,by have:=hgr.size;have:=hB.size;simp [World.setCell];omega,fun k hk hm=>⟨same k hk (fun e=>hm (by rw [e];exact h.run.mrb)) (fun e=>hm (h.out.2 k e.symm)),fun x=>x.elim hm (fun y=>by have:=y.2;omega)⟩⟩,fun k hk hm=>⟨.inl hm,?_⟩,fun hl k hk=>?_⟩
   ·by_cases e1:k=rb
    ·subst e1;exact .inr ⟨_,TRun,_,h.run.blk,by decide⟩
    ·by_cases e2:some k=ov.ownBlock
     ·rcases h.out.1.2 with⟨rfl,_⟩ | ⟨g,cap,cur,rfl,_,hg,_⟩
      ·cases e2
      ·simp only [Value.ownBlock,Option.some.injEq] at e2;subst e2;exact .inr ⟨_,TBy,_,hg,by decide⟩
     ·exact .inl (same k hk e1 e2)
   ·have hsz:w1.heap.size=(w1.setCell ⟨rb,5,none⟩ v').heap.size:=by simp [World.setCell]
    rcases hk with hk | hk
    ·have:=hl k hk;have:=hgr.size;have:=hB.size;omega
    ·have:=(hown.lt k hk.1).2;omega
  have hW':=h.wd.mv hmv;have hW2:Wd (Mn M (fun k=>v'.ownBlock=some k/\w0.heap.size<=k)) (w1.setCell ⟨rb,5,none⟩ v') s tb mb sb gb {W with out:=W.out++Pl.cut (Pl.text W.pairs a)} :=hW'.more (Sg.Le.refl _) rfl rfl rfl rfl rfl rfl hW'.procs hW'.conts;have hblk:(w1.setCell ⟨rb,5,none⟩ v').heap[rb]?=some (.cells #[.pointer (some ⟨sb,0,none⟩),fv,ev,gv,kv,v'] TRun (0,0)):=aD hrb1 5 v';refine⟨_,_,rfl,.inl ⟨rfl,⟨_,_,rfl⟩,v',hblk,fun w3 hc=>?_⟩⟩;rw [hp,if_pos h1];refine(eH hW2 hblk (.inl h.run.mrb) hc (fun _=>eX .nothing) (fun hs=>(h.fr.go hmv.stp (Sg.Le.refl _)).go hs (Sg.Le.refl _)) ?_).after2 hmv.stp (Sg.Le.refl _) (NsPb.refl _ _);refine⟨gA hown (fun g hg=>Below.heap_setCell _ _ _ _ (fun x=>hnv g hg (by simpa using x))),fun g hg=>?_⟩;rcases hnew g hg with h3 | h3
  ·exact .inl (h.out.2 g h3)
  ·exact .inr ⟨hg,by have:=hB.size;omega⟩
theorem Wd.lie{w1:World}{s:Sg}{W:PW}(h:Wd M w s tb mb sb gb W)(hB:Below w.heap.size w w1):Lie w1 s W.pairs w1.heap.size:=by
 have h':=h.mv (Mv.below hB);refine⟨fun i k p h1 h2=>?_,h'.rdr.pairs.nodup,h'.rdr.pairs.len,fun i k h1=>?_,fun i k h1=>?_,h'.gs.tab,h'.gs.size,h'.eng,h'.procs.nodup,h'.conts.nodup⟩
 ·obtain⟨_,x,y,h3,h4⟩:=h'.rdr.pairs.at_ i k p h1 h2;exact⟨aB h3,x,y,h3,h4⟩
 ·obtain⟨q,_,_,nv,body,ev,x,h3,_⟩:=h'.procs.get h1;exact⟨aB h3,#[nv,body,ev],by rw [h'.tq];exact h3⟩
 ·obtain⟨q,_,_,kv,h3,_⟩:=h'.conts.get h1;exact⟨aB h3,#[kv],by rw [h'.tc];exact h3⟩
end
end Go.Proofs.YtkgbdddkcjpgfaaGreatDoor
