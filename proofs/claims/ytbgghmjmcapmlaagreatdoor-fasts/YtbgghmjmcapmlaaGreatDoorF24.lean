import Derived.Deep.MidRow
import Derived.Test.YtbgghmjmcapmlaaGreatDoorF2B
namespace Go.Proofs.YtbgghmjmcapmlaaGreatDoor
set_option maxHeartbeats 4000000
set_option maxRecDepth 100000
open Go.Proofs.Tryz
open Pl (AE Env arity AO BH A4 BA BR BW IA CS C8 DN DY DW A7 AU)
section
open Go.RowKit Go.Lib Go.Maps
def oR:List Value:=[
 Value.string ⟨Pl.BH.toArray⟩,Value.int .i64 ((arity BH:Nat):Int),
 Value.string ⟨Pl.A4.toArray⟩,Value.int .i64 ((arity A4:Nat):Int),
 Value.string ⟨Pl.BA.toArray⟩,Value.int .i64 ((arity BA:Nat):Int),
 Value.string ⟨Pl.BW.toArray⟩,Value.int .i64 ((arity BW:Nat):Int),
 Value.string ⟨Pl.IA.toArray⟩,Value.int .i64 ((arity IA:Nat):Int),
 Value.string ⟨Pl.CS.toArray⟩,Value.int .i64 ((arity CS:Nat):Int),
 Value.string ⟨Pl.DN.toArray⟩,Value.int .i64 ((arity DN:Nat):Int),
 Value.string ⟨Pl.C8.toArray⟩,Value.int .i64 ((arity C8:Nat):Int),
 Value.string ⟨Pl.DY.toArray⟩,Value.int .i64 ((arity DY:Nat):Int),
 Value.string ⟨Pl.DW.toArray⟩,Value.int .i64 ((arity DW:Nat):Int),
 Value.string ⟨Pl.BR.toArray⟩,Value.int .i64 ((arity BR:Nat):Int),
 Value.string ⟨Pl.A7.toArray⟩,Value.int .i64 ((arity A7:Nat):Int)]
def uH:Value:=.agg oR.toArray
theorem yA(k:Nat)(nm:AE)(hi:AO[k]?=some nm)(b:k<12):oR[k*2]?=some (.string ⟨nm.toArray⟩)/\oR[k*2+1]?=some (Q1 ((arity nm:Nat):Int)):=by
 have a:k=0\/k=1\/k=2\/k=3\/k=4\/k=5\/k=6\/k=7\/k=8\/k=9\/k=10\/k=11:=by omega
 rcases a with rfl | rfl | rfl | rfl | rfl | rfl | rfl | rfl | rfl | rfl | rfl | rfl<;>(obtain rfl:=i_ hi;exact⟨rfl,rfl⟩)
theorem YF(w:World)(k:Nat)(nm:AE)(hi:AO[k]?=some nm)(b:k<12):(Instr.index 148 uH (.int .i64 (k:Int))).run prog w=.ok (.agg #[.string ⟨nm.toArray⟩,Q1 ((arity nm:Nat):Int)]) w:=by
 have a:k=0\/k=1\/k=2\/k=3\/k=4\/k=5\/k=6\/k=7\/k=8\/k=9\/k=10\/k=11:=by omega
 rcases a with rfl | rfl | rfl | rfl | rfl | rfl | rfl | rfl | rfl | rfl | rfl | rfl<;>(obtain rfl:=i_ hi;exact(show _=_ from by kernel_rfl))
theorem primL_len:oR.length=24:=rfl
theorem range_prim(w:World)(hp:EH w):w.rangeAt 0 0 oR:=by
 intro j v c;have k:j<24:=by rw [<- primL_len];exact(s_ c).1
 obtain⟨b,a⟩:∃b,AO[j / 2]?=some b:=⟨_,g_ (show j / 2<Pl.AO.length from Nat.lt_trans (show j / 2<12 by omega) w8)⟩
 obtain⟨f,g⟩:=yA (j / 2) b a x8;obtain⟨h,i⟩:=hp (j / 2) b a x8;rw [Nat.zero_add];rcases Nat.mod_two_eq_zero_or_one j with e | e
 ·have d:j / 2*2=j:=by omega
  rw [d] at f h;rw [h,<-f,c]
 ·have d:j / 2*2+1=j:=by omega
  rw [d] at g i;rw [i,<-g,c]
theorem Tryz.NK:prog.underlying 148=some (.array 12 147):=by kernel_rfl
theorem Tryz.YO:(prog.info? 148).map (·.size)=some oR.length:=by rw [primL_len];kernel_rfl
theorem iN{b:Array Oper}{rest:List Oper}{c:Oper}{a:Act}{w:World}{Q:Exit->Act->World->Prop}(d:c.guard=none)(x:Operand)(e:c.op=.load 148 x)(f:a.eval x=(Q0 (0)))(hp:EH w)(h:wpList prog b Q rest (a.put c.dst uH) w):wpList prog b Q (c::rest) a w :=wpList_load_mid d 148 x e _ 0 f oR (.array 12 147) (range_prim w hp) Tryz.NK rfl Tryz.YO h
theorem sJ(w:World)(tb mb:Nat)(a:List AE)(h:a.length<=1000)(u:a.Nodup)(l:IW w tb mb a)(hp:EH w)(L:8<=w.heap.size):Q2 33 #[Q0 tb] w fun e M=>e=.returned (.map (some w.heap.size))/\GQ w tb mb w.heap.size a 13 M:=by
 have E:=@run_makeMap prog;have v:Hid (GQ w tb mb w.heap.size a 0 (w.alloc (.map #[] 0))):=⟨l.keep (k_ l.lt.1) (k_ l.lt.2),⟨_,World.ownsMap_made w _ _ _,tidy_empty,u,fun j _ Q=>by omega,fun k m=>(by cases m),fun x N=>(by cases N)⟩,fun k m _=>k_ m,w9,rfl,rfl,rfl,w9,n_⟩
 have y:Hid (mb<w.heap.size/\tb<w.heap.size/\a.length<=1000):=⟨l.lt.2,l.lt.1,h⟩
 have F:=h_ l;have z:Hid (Q2 50 #[Q0 tb,.string ⟨#[99,97,108,108,47,99,99]⟩] (w.alloc (.map #[] 0)) fun e n=>∃i:Nat,e=.returned (Q1 i)/\∃b,(Instr.mapUpdate 110 (.map (some w.heap.size)) (.int .i64 (i:Int)) (.iface 146 (.agg #[]))).run prog n=.ok () b/\GQ w tb mb w.heap.size a 1 b/\∀k,w.heap.size<=k->k<(w.alloc (.map #[] 0)).heap.size->k≠w.heap.size->n.heap[k]?=(w.alloc (.map #[] 0)).heap[k]?):=GQ.next (n:=0) (gb:=w.heap.size) h v (nm:=AU) rfl y.1 y.2.1;clear l u h;go_enter func33,ntmps33
 go_upto_region 2 with(go_at_call 50;refine Calls.mono z ?_;rintro e n ⟨R,rfl,b,p,q,_⟩)
 have d:0≠mb:=fun e=>by obtain⟨S,c,G⟩:=F.F6;have J:=(hp 0 BH rfl w8).1;rw [e] at J;simp [World.cell?,G] at J
 have r:∀o,b.cell? ⟨0,o,none⟩=w.cell? ⟨0,o,none⟩:=fun o=>World.cell?_of_block (w:=w) (q.2.2.1 0 (l_ jN L) d);have H:Hid (EH b):=fun k f m A=>⟨(r _).trans (hp k f m A).1,(r _).trans (hp k f m A).2⟩
 have B:=h_ q;clear q r hp p z v d E;go_wp2_with (refine iN rfl _ rfl rfl H ?_)
 go_loopw [13] (fun i wr=>∃k:Nat,k<=12/\i=.int .i64 (k:Int)/\Hid (GQ w tb mb w.heap.size a (k+1) wr)) (fun i _=>12-(RowKit.intOf i).toNat)
 case atStart=>exact⟨0,x8,rfl,B⟩
 case round =>
  obtain⟨k,m,rfl,K⟩:=hrel;by_cases s:k<12
  ·have T:decide ((k:Int)<12)=true:=by simp;omega
   obtain⟨f,t⟩:∃f,AO[k]?=some f:=⟨_,g_ (show k<Pl.AO.length from Nat.lt_trans s w8)⟩
   have g:oF[k+1]?=some f:=by unfold oF;rw [List.getElem?_cons_succ,List.getElem?_take_of_lt s];exact t
   have O:=fun w=>YF w k f t s;have P:Hid (∀o,Q2 50 #[Q0 tb,.string ⟨f.toArray⟩] (wr.alloc o) fun e n=>∃i:Nat,e=.returned (Q1 i)/\∃b,(Instr.mapUpdate 110 (.map (some w.heap.size)) (.int .i64 (i:Int)) (.iface 149 (.int .i64 (k:Int)))).run prog n=.ok () b/\GQ w tb mb w.heap.size a (k+2) b/\∀k,w.heap.size<=k->k<(wr.alloc o).heap.size->k≠w.heap.size->n.heap[k]?=(wr.alloc o).heap[k]?):=fun o=>GQ.next (n:=k+1) (gb:=w.heap.size) (nm:=f) y.2.2 (K.alloc o) g y.1 y.2.1;clear t g;go_wp2_with (go_at_call 50;refine(P _).mono ?_;rintro e n ⟨U,rfl,V,I,C,_⟩);have D:=h_ C;clear C
   go_roundw
   case rel=>exact⟨k+1,x8,k7,D⟩
   case measure=>simp [RowKit.intOf];omega
  ·obtain rfl:k=12:=by omega
   go_wp2_with fail
   go_ret;exact⟨rfl,K⟩
theorem eO:∀(l:Env)(s:AE)(k:Nat),Pl.find l s=some k->(s,k)∈l
 | [],s,k,h=>by cases h
 | b::r,s,k,h=>by
  unfold Pl.find at h
  cases a:Pl.find r s with
  | some j =>rw [a] at h;obtain rfl:=i_ h;exact List.mem_cons_of_mem _ (eO r s j a)
  | none =>
   rw [a] at h;by_cases e:b.1=s
   ·simp only [if_pos e,o_] at h;rw [<- e,<-h];exact List.mem_cons_self ..
   ·simp only [if_neg e] at h
    cases h
theorem l8:∀b∈Pl.AW.globals,AO[b.2]?=some b.1/\b.1∈oF/\(List.replicate 13 (none:Option (Nat×Nat)))[b.2]?=some none/\Pl.AW.places[b.2]?=some (.AZ b.1):=by decide
theorem zO:∀a∈oF,(Pl.find Pl.AW.globals a).isSome=true:=by decide
end
end Go.Proofs.YtbgghmjmcapmlaaGreatDoor
