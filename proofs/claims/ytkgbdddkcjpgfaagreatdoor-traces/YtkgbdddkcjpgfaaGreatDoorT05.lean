import Derived.Conc.MuLone
import Derived.KernelRfl
import Derived.Test.YtkgbdddkcjpgfaaGreatDoorT02
import Derived.Maps.OwnSet
import Derived.Deep.QuietTactic
import Derived.BigQuiet
import Derived.Deep.AppendLies
namespace Go.Proofs.YtkgbdddkcjpgfaaGreatDoor
set_option maxHeartbeats 2000000
set_option maxRecDepth 100000
open Go.Proofs.Tryz
section
abbrev muLink:Go.Conc.Locks.MuLink:={lock:=166,unlock:=167,ilock:=191,iunlock:=192,lockSlow:=209,unlockSlow:=211,disable:=97,enable:=99,acquire:=100,relMerge:=132,cas32:=208,add32:=210,tMutex:=125,tIMutex:=123,tPMutex:=370,tPIMutex:=381,tPI32:=383,tUP:=198,tNoCopy:=98,tU32:=104}
theorem zR:Go.Conc.Locks.MuLib prog muLink :=
 ⟨func166,func167,func191,func192,func97,func99,func100,func132,func208,func210,
  underlying123,Tryz.runUnderlying123,Tryz.sizeOf123,Tryz.isAgg123,Tryz.zeroValue123,underlying125,Tryz.runUnderlying125,Tryz.sizeOf125,Tryz.isAgg125,Tryz.zeroValue125,underlying370,Tryz.runUnderlying370,Tryz.sizeOf370,Tryz.isAgg370,Tryz.zeroValue370,underlying381,Tryz.runUnderlying381,Tryz.sizeOf381,Tryz.isAgg381,Tryz.zeroValue381,underlying383,Tryz.runUnderlying383,Tryz.sizeOf383,Tryz.isAgg383,Tryz.zeroValue383,underlying198,Tryz.runUnderlying198,Tryz.sizeOf198,Tryz.isAgg198,Tryz.zeroValue198,underlying98,Tryz.runUnderlying98,Tryz.sizeOf98,Tryz.isAgg98,Tryz.zeroValue98,underlying21,Tryz.runUnderlying21,Tryz.sizeOf21,Tryz.isAgg21,Tryz.zeroValue21,(by kernel_rfl)⟩
end
section
open Go.RowKit
variable {w w' a:World} {b:Nat} {ok:Nat->Prop} {L:Value} {at_ dp:Int} {g:Bool} {c:Array Value} {T:TypeId}
abbrev Tr:=DataW Unit
def TD:TypeId:=239
def TP:TypeId:=135
def TR:TypeId:=138
def PU:Value:=.string ⟨#[110,117,109,98,101,114]⟩
def ZJ:Value:=.string ⟨#[110,97,109,101]⟩
def PQ:Value:=.string ⟨#[116,114,117,116,104]⟩
def s6:Value:=.string ⟨#[108,105,115,116]⟩
def tI:Value:=.string ⟨#[]⟩
def gW(m:Int):Prop:=-(Pl.CG:Int)<=m/\m<=(Pl.CG:Int)
def AJ(ok:Nat->Prop):Nat->World->Value->Tr->Prop
 | 0,_,_,_=>False
 | n+1,w,v,t=>∃b,v=.pointer (some ⟨b,0,none⟩)/\ok b /\
  match t with
  | .lit (.int _ m)=>∃k:Int,w.heap[b]?=some (.cells #[PU,.int .i64 k,tI,.slice none 0 0] TD (0,0))/\(gW m->k=m)
  | .lit (.bool x)=>w.heap[b]?=some (.cells #[PQ,.int .i64 (if x then 1 else 0),tI,.slice none 0 0] TD (0,0))
  | .lit (.string s)=>w.heap[b]?=some (.cells #[ZJ,.int .i64 0,eB s,.slice none 0 0] TD (0,0))
  | .agg ts=>∃kids vs,w.heap[b]?=some (.cells #[s6,.int .i64 0,tI,kids] TD (0,0))/\(∀r,kids.ownBlock=some r->ok r)/\w.ownsRow 0 TP 1 kids ts.length vs /\
    (∀(i:Nat)(u:Value)(x:Tr),vs[i]?=some u->ts[i]?=some x->AJ ok n w u x)/\ts.length<=1000
  | _=>False
def CU(ok:Nat->Prop)(w w':World):Prop:=∀(k:Nat)(cur:Array Value)(e:TypeId),ok k->e=TD\/e=TP->w.heap[k]?=some (.cells cur e (0,0))->w'.heap[k]?=some (.cells cur e (0,0))
theorem CU.refl(ok:Nat->Prop)(w:World):CU ok w w:=fun _ _ _ _ _ h=>h
theorem CU.trans{b c:World}(h:CU ok a b)(k:CU ok b c):CU ok a c:=fun i d e o t x=>k i d e o t (h i d e o t x)
theorem aB{k:Nat}{o:Obj}(h:w.heap[k]?=some o):k<w.heap.size:=(Array.getElem?_eq_some_iff.1 h).1
theorem CU.AA(h:Below w.heap.size w w'):CU ok w w':=fun k _ _ _ _ a=>(h.block k (aB a)).trans a
theorem CU.DX{f:Nat×Nat}(g:w.grownBy w' (some b))(h:w.heap[b]?=some (.cells c T f))(i:T≠TD)(j:T≠TP):CU ok w w':=by
 intro k l e _ m a
 have d:some k≠some b:=by
  intro n;obtain rfl:=i_ n;rw [h] at a;simp only [o_,Obj.cells.injEq] at a;rcases m with rfl | rfl
  ·exact i a.2.1
  ·exact j a.2.1
 exact(g.block k (aB a) d).trans a
theorem CU.mono{ok':Nat->Prop}(h:CU ok w w')(hi:∀k,ok' k->ok k):CU ok' w w':=fun k a e o=>h k a e (hi k o)
theorem nO{v:Value}{n:Nat}{xs:List Value}(d:CU ok w w')(e:∀r,v.ownBlock=some r->ok r)(h:w.ownsRow 0 TP 1 v n xs):w'.ownsRow 0 TP 1 v n xs:=by
 refine⟨h.1,?_⟩;rcases h.2 with f | ⟨g,c,a,rfl,i,j,b⟩
 ·exact .inl f
 ·exact .inr ⟨g,c,a,rfl,i,d g a TP (e g rfl) (.inr rfl) j,b⟩
theorem AJ.keep(a:CU ok w w'):∀(n:Nat)(v:Value)(t:Tr),AJ ok n w v t->AJ ok n w' v t
 | 0,_,_,h=>h
 | n+1,v,t,h=>by
  obtain⟨b,g,c,h⟩:=h;refine⟨b,g,c,?_⟩
  match t,h with
  | .lit (.int _ m),⟨k,f,e⟩=>exact⟨k,a b _ _ c (.inl rfl) f,e⟩
  | .lit (.bool x),h=>exact a b _ _ c (.inl rfl) h
  | .lit (.string s),h=>exact a b _ _ c (.inl rfl) h
  | .agg y,⟨d,j,f,e,l,o,p⟩=>exact⟨d,j,a b _ _ c (.inl rfl) f,e,nO a e l,fun i u x q r=>AJ.keep a n u x (o i u x q r),p⟩
theorem AJ.mono{ok':Nat->Prop}(hi:∀k,k<w.heap.size->ok k->ok' k):∀(n:Nat)(v:Value)(t:Tr),AJ ok n w v t->AJ ok' n w v t
 | 0,_,_,h=>h
 | n+1,v,t,h=>by
  obtain⟨b,d,e,h⟩:=h
  match t,h with
  | .lit (.int _ m),⟨k,a,f⟩=>exact⟨b,d,hi b (aB a) e,k,a,f⟩
  | .lit (.bool x),h=>exact⟨b,d,hi b (aB h) e,h⟩
  | .lit (.string s),h=>exact⟨b,d,hi b (aB h) e,h⟩
  | .agg z,⟨c,l,a,f,g,o,p⟩=>exact⟨b,d,hi b (aB a) e,c,l,a,fun r j=>hi r (g.lt r j).2 (f r j),g,fun i u x q y=>AJ.mono hi n u x (o i u x q y),p⟩
theorem AJ.up:∀(n m:Nat)(v:Value)(t:Tr),n<=m->AJ ok n w v t->AJ ok m w v t
 | 0,_,_,_,_,h=>h.elim
 | n+1,0,_,_,c,_=>by omega
 | n+1,m+1,v,t,c,h=>by
  obtain⟨b,d,e,h⟩:=h;refine⟨b,d,e,?_⟩
  match t,h with
  | .lit (.int _ m),h=>exact h
  | .lit (.bool x),h=>exact h
  | .lit (.string s),h=>exact h
  | .agg r,⟨a,f,g,j,k,l,o⟩=>exact⟨a,f,g,j,k,fun i u x p q=>AJ.up n m u x (by omega) (l i u x p q),o⟩
def Rd(w:World)(b:Nat)(L:Value)(at_ dp:Int)(g:Bool):Prop:=w.heap[b]?=some (.cells #[L,.int .i64 at_,.int .i64 dp,.bool g] TR (0,0))
theorem aA(h:w.heap[b]?=some (.cells c T (0,0)))(o:Nat):w.cell? ⟨b,o,none⟩=c[o]? := by simp [World.cell?,h]
theorem aF(h:w.heap[b]?=some (.cells c T (0,0)))(o:Nat):w.frozen? ⟨b,o,none⟩=false:=by simp [World.frozen?,h]
theorem Rd.cells(h:Rd w b L at_ dp g) :w.cell? ⟨b,0,none⟩=some L/\w.cell? ⟨b,1,none⟩=some (.int .i64 at_)/\w.cell? ⟨b,2,none⟩=some (.int .i64 dp)/\w.cell? ⟨b,3,none⟩=some (.bool g) :=⟨aA h 0,aA h 1,aA h 2,aA h 3⟩
theorem aD(h:w.heap[b]?=some (.cells c T (0,0)))(o:Nat)(v:Value):(w.setCell ⟨b,o,none⟩ v).heap[b]?=some (.cells (c.setIfInBounds o v) T (0,0)):=by simp [World.setCell,Array.getElem?_modify,h]
theorem aE(w:World)(b o:Nat)(v:Value):w.grownBy (w.setCell ⟨b,o,none⟩ v) (some b) :=⟨rfl,rfl,rfl,by simp [World.setCell],fun k _ a=>Below.heap_setCell _ _ _ _ (fun e=>a (by simp [e]))⟩
theorem aC{b c:World}{row:Option Nat}(h:a.grownBy b row)(k:b.grownBy c row):a.grownBy c row :=⟨k.os.trans h.os,k.tape.trans h.tape,k.output.trans h.output,t_ h.size k.size,fun i e d=>(k.block i (l_ e h.size) d).trans (h.block i e d)⟩
theorem aQ{b:World}(row:Option Nat)(h:Below a.heap.size a b):a.grownBy b row:=⟨h.os,h.tape,h.output,h.size,fun k c _=>h.block k c⟩
theorem cS{b:World}(h:a.grownBy b none):Below a.heap.size a b:=⟨h.os,h.tape,h.output,h.size,fun k c=>h.block k c (by simp)⟩
theorem Rd.KE(h:Rd w b L at_ dp g)(x:Int):Rd (w.setCell ⟨b,1,none⟩ (.int .i64 x)) b L x dp g:=aD h 1 _
theorem Rd.WU(h:Rd w b L at_ dp g)(x:Int):Rd (w.setCell ⟨b,2,none⟩ (.int .i64 x)) b L at_ x g:=aD h 2 _
theorem Rd.FA(h:Rd w b L at_ dp g)(x:Bool):Rd (w.setCell ⟨b,3,none⟩ (.bool x)) b L at_ dp x:=aD h 3 _
theorem Rd.alloc(h:Rd w b L at_ dp g)(o:Obj):Rd (w.alloc o) b L at_ dp g:=(Below.heap_alloc w o b (aB h)).trans h
theorem Rd.below(h:Rd w b L at_ dp g)(a:Below w.heap.size w w'):Rd w' b L at_ dp g:=(a.block b (aB h)).trans h
end
section
open Go.RowKit Go.Maps Go.MuLone
variable {ns:List (List UInt8)} {w:World} {tb mb:Nat}
def P5:TypeId:=127
theorem lawS:Keyed prog 9:=string_keyed underlying9
theorem TN:Keyed prog 3:=int_keyed underlying3
theorem ZV(w:World):(zeroValue 3).run prog w=.ok (.int .i64 0) w:=by kernel_rfl
structure P4(D:DataW Unit)(ns:List (List UInt8)):Prop where
 tidy:Tidy D
 size:Maps.size D=ns.length
 yes:∀(k:Nat)(s:List UInt8),ns[k]?=some s->Maps.has D (.string s)=true/\∀z,D.atKey (.string s) z=.lit (.int .i64 k)
 no:∀s,s∉ns->Maps.has D (.string s)=false
 nodup:ns.Nodup
theorem P4.nil:P4 (.map []) []:=⟨tidy_empty,rfl,fun k s h=>by simp at h,fun s _=>rfl,List.nodup_nil⟩
theorem P4.push{D:DataW Unit}(h:P4 D ns){s:List UInt8}(g:s∉ns):P4 (D.put (.string s) (.lit (.int .i64 (ns.length:Int)))) (ns++[s]):=by
 have i:WideAt.IsKeyLit (.string s):=trivial;refine⟨h.tidy.put i _,by rw [size_put h.tidy,h.no s g,h.size];simp,?_,?_,?_⟩
 ·intro k t c;by_cases e:t=s
  ·subst e
   have:k=ns.length:=by
    rcases Nat.lt_or_ge k ns.length with d | d
    ·rw [List.getElem?_append_left d] at c;exact absurd (q_ c) g
    ·have:=(s_ c).1;simp at this;omega
   subst this;exact⟨has_put_same h.tidy.isMap i _,fun z=>atKey_put_same h.tidy.isMap i _ z⟩
  ·have f:(Lit.string t)≠.string s:=fun x=>e (by simpa using x)
   have d:k<ns.length:=by
    rcases Nat.lt_or_ge k ns.length with d | d
    ·exact d
    ·rw [List.getElem?_append_right d] at c;have j:=q_ c;simp at j;exact absurd j e
   rw [List.getElem?_append_left d] at c;obtain⟨m,n⟩:=h.yes k t c;exact⟨by rw [has_put_other f];exact m,fun z=>by rw [atKey_put_other f];exact n z⟩
 ·intro t c;simp only [List.mem_append,List.mem_singleton,not_or] at c;rw [has_put_other (fun x=>c.2 (by simpa using x))];exact h.no t c.1
 ·rw [List.nodup_append];refine⟨h.nodup,by simp,?_⟩;rintro a o b l;rintro rfl;simp at l;subst l;exact g o
structure IW(w:World)(tb mb:Nat)(ns:List (List UInt8)):Prop where
 blk:w.heap[tb]?=some (.cells #[.int .i32 0,.int .u32 0,.map (some mb)] P5 (0,0))
 map:∃D:DataW Unit,w.ownsMap prog 9 (plainElem prog 3) mb ns.length D/\P4 D ns
theorem IW.ne(h:IW w tb mb ns):mb≠tb:=by rintro rfl;obtain⟨D,⟨b,c,a,_⟩,_⟩:=h.map;rw [h.blk] at a;simp at a
theorem IW.lt(h:IW w tb mb ns):tb<w.heap.size/\mb<w.heap.size:=⟨aB h.blk,by obtain⟨D,a,_⟩:=h.map;exact a.lt⟩
theorem IW.keep{w':World}(h:IW w tb mb ns)(a:w'.heap[tb]?=w.heap[tb]?)(b:w'.heap[mb]?=w.heap[mb]?):IW w' tb mb ns:=by obtain⟨D,⟨c,d,e,r⟩,f⟩:=h.map;exact⟨a.trans h.blk,D,⟨c,d,b.trans e,r⟩,f⟩
def b9(ns:List (List UInt8))(s:List UInt8):List (List UInt8):=if s∈ns then ns else ns++[s]
theorem d8(ns:List (List UInt8))(s:List UInt8):(b9 ns s)[ns.idxOf s]?=some s:=by
 unfold b9;by_cases h:s∈ns
 ·rw [if_pos h];have a:=List.idxOf_lt_length_of_mem h;rw [g_ a,List.getElem_idxOf a]
 ·rw [if_neg h,List.idxOf_eq_length h];simp
theorem pL(ns:List (List UInt8))(s:List UInt8):ns <+: b9 ns s:=by
 unfold b9;split
 ·exact List.prefix_refl _
 ·exact List.prefix_append _ _
theorem dE(ns:List (List UInt8))(s:List UInt8):(b9 ns s).length<=ns.length+1:=by unfold b9;split<;>simp
theorem sE(w:World):Calls prog 41 #[] w fun e a=>e=.returned (.pointer (some ⟨w.heap.size+1,0,none⟩))/\Below w.heap.size w a/\IW a (w.heap.size+1) w.heap.size []:=by
 have b:=@run_makeMap prog;go_enter func41,ntmps41;go_wp2;go_ret;refine⟨rfl,b_.alloc (by simp) _,⟨?_,.map [],?_,P4.nil⟩⟩
 ·have:=heap_alloc_new (w.alloc (.map #[] 0)) (.cells #[.int .i32 0,.int .u32 0,.map (some w.heap.size)] P5);simpa [P5] using this
 ·exact(World.ownsMap_made w _ _ _).alloc _
theorem nT{c:Array Value}{T:TypeId}(h:w.heap[tb]?=some (.cells c T (0,0)))(j:c[0]?=some (.int .i32 0))(x:Value){w1:World}(a:(w.setCell ⟨tb,0,none⟩ x).grownBy w1 (some mb))(b:mb≠tb) :(w1.setCell ⟨tb,0,none⟩ (.int .i32 0)).heap[tb]?=w.heap[tb]? /\ w.grownBy (w1.setCell ⟨tb,0,none⟩ (.int .i32 0)) (some mb):=by
 have d:=aB h;have k:w1.heap[tb]?=some (.cells (c.setIfInBounds 0 x) T (0,0)):=by rw [a.block tb (by simpa [World.setCell] using d) (fun e=>b (i_ e).symm)];exact aD h 0 x
 have g:(w1.setCell ⟨tb,0,none⟩ (.int .i32 0)).heap[tb]?=w.heap[tb]? := by
  rw [aD k 0,h,Array.setIfInBounds_setIfInBounds]
  congr 2
  apply Array.ext_getElem?;intro i;rw [Array.getElem?_setIfInBounds];split
  ·rename_i f;subst f;split
   ·exact j.symm
   ·rw [Array.getElem?_eq_none (by omega)]
  ·rfl
 refine⟨g,⟨a.os,a.tape,a.output,by have:=a.size;simpa [World.setCell] using this,fun i f l=>?_⟩⟩;by_cases e:i=tb
 ·subst e;exact g
 ·rw [Below.heap_setCell _ _ _ _ (fun x=>e (by simpa using x)),a.block i (by simpa [World.setCell] using f) l,Below.heap_setCell _ _ _ _ (fun x=>e (by simpa using x))]
theorem jE(w:World)(tb mb:Nat)(ns:List (List UInt8))(s:List UInt8)(h:IW w tb mb ns)(U:s.length<=1000000)(V:ns.length<=1000000000000000000) :Calls prog 123 #[.pointer (some ⟨tb,0,none⟩),.string ⟨s.toArray⟩] w fun e t=>e=.returned (.int .i64 (ns.idxOf s:Nat))/\IW t tb mb (b9 ns s)/\w.grownBy t (some mb):=by
 have H:=h_ h;have d:=h.ne;obtain⟨o,D,q,p⟩:=h;have u:w.cell? ⟨tb,0,none⟩=some (.int .i32 0):=aA o 0;have v:w.frozen? ⟨tb,0,none⟩=false:=aF o 0;have W:w.cell? ⟨tb,0+2,none⟩=some (.map (some mb)):=aA o 2;have i:keyOf prog 9 (.string ⟨s.toArray⟩)=some (.string s):=WideMaps.keyOf_string_mk underlying9 (by unfold maxLen;show s.toArray.size<=_;simp;omega);have b:=q.setCell (a:=⟨tb,0,none⟩) d (.int .i32 1);have l:=h_ o;have I:=h_ p;by_cases j:s∈ns
 ·obtain⟨J,k⟩:=p.yes _ _ (show ns[ns.idxOf s]?=some s by rw [g_ (List.idxOf_lt_length_of_mem j),List.getElem_idxOf]);have x:Hid (b9 ns s=ns):=show b9 ns s=ns from by unfold b9;rw [if_pos j]
  have K:=h_ k;clear o p j k
  go_enter_defers func123,ntmps123
  go_wp2_with (first
   | (go_at_call 166;refine(lock_free zR ⟨tb,0,none⟩ _ u v).mono ?_;rintro e t ⟨rfl,rfl⟩)
   | (at_lookup;refine wpList_lookup_own_ok_int _ rfl _ _ 121 rfl 9 3 .i64 lawS underlying121 underlying3 (ZV _) mb ns.length D rfl b _ _ rfl i ?_;intro c m y))
  refine leaves_cons (f:=167) (args:=#[.pointer (some ⟨tb,0,none⟩)]) (by simp) (by simp [go_sem]) ?_;refine(unlock_deferred zR ⟨tb,0,none⟩ .returning _ (World.cell?_setCell_same w ⟨tb,0,none⟩ (.int .i32 1) u) (by simp [v])).mono ?_;rintro e L z ⟨rfl,rfl,rfl⟩;have M:c=(ns.idxOf s:Nat):=by rw [K.out] at m;simpa using m.symm
  obtain⟨A,B⟩:=nT l rfl (.int .i32 1) (w1:=w.setCell ⟨tb,0,none⟩ (.int .i32 1)) (mb:=mb) ⟨rfl,rfl,rfl,n_,fun _ _ _=>rfl⟩ d;refine⟨_,results_tmp rfl _ _ _,by rw [M];rfl,?_,B⟩;rw [x.out];exact H.keep A (by rw [Below.heap_setCell _ _ _ _ d,Below.heap_setCell _ _ _ _ d])
 ·have J:=p.no s j;have x:Hid (b9 ns s=ns++[s]):=show b9 ns s=_ from by unfold b9;rw [if_neg j]
  have N:=h_ (List.idxOf_eq_length j);have O:=h_ j;have C:=p.size;have E:(Lit.int .i64 ((ns.length:Nat):Int)).wf=true:=WalkArith.wf_i64 (by omega);clear o p j
  go_enter_defers func123,ntmps123
  go_wp2_with (first
   | (go_at_call 166;refine(lock_free zR ⟨tb,0,none⟩ _ u v).mono ?_;rintro e t ⟨rfl,rfl⟩)
   | (at_lookup;refine wpList_lookup_own_ok_int _ rfl _ _ 121 rfl 9 3 .i64 lawS underlying121 underlying3 (ZV _) mb ns.length D rfl b _ _ rfl i ?_;intro c m y)
   | (at_len;refine wpList_len_own _ rfl _ 121 rfl 9 3 underlying121 _ mb ns.length D rfl b ?_;rw [C])
   | (at_mapUpdate;refine wpList_mapUpdate_own _ rfl _ _ _ 121 rfl 9 3 lawS underlying121 _ mb ns.length D rfl b (by unfold maxLen;omega) _ _ _ rfl rfl i _ [] (plainElem_int underlying3 E) ?_;intro G n g))
  have P:G.cell? ⟨tb,0,none⟩=some (.int .i32 1):=by have r:=g.block tb (by simpa [World.setCell] using aB l) (fun e=>d (i_ e).symm);rw [aD l.out 0] at r;exact aA r 0
  have Q:G.frozen? ⟨tb,0,none⟩=false:=by have r:=g.block tb (by simpa [World.setCell] using aB l) (fun e=>d (i_ e).symm);rw [aD l.out 0] at r;exact aF r 0
  refine leaves_cons (f:=167) (args:=#[.pointer (some ⟨tb,0,none⟩)]) (by simp) (by simp [go_sem]) ?_;refine(unlock_deferred zR ⟨tb,0,none⟩ .returning _ P Q).mono ?_;rintro e L z ⟨rfl,rfl,rfl⟩;obtain⟨A,B⟩:=nT l rfl (.int .i32 1) g d;refine⟨_,results_tmp rfl _ _ _,by rw [N.out];rfl,?_,B⟩;rw [x.out];obtain⟨R,S,F,T⟩:=n;refine⟨A.trans l,_,⟨R,S,?_,by simpa using T⟩,I.push O⟩;rw [Below.heap_setCell _ _ _ _ d];exact F
end
open Pl (A3)
section
open Go.RowKit
variable {w wr:World} {L v kids:Value} {b n dp de G dpk:Nat} {all r q:List (List UInt8)} {g gk:Bool} {vs:List Value} {t:List UInt8} {at_:Int} {ok:Nat->Prop}
def OM(w:World)(b:Nat)(L:Value)(at_ dp:Int)(g:Bool)(s:List UInt8)(e:Ending)(w':World):Prop :=
 ∃v g',e=.returned v/\w.grownBy w' (some b)/\Rd w' b L at_ dp g' /\
  ((Pl.isNum s=true/\g'=(g||Pl.ER s)/\AJ (fun k=>w.heap.size<=k) 1 w' v (.lit (.int .i64 (Pl.F3 s)))) \/
   (Pl.isNum s=false/\Pl.DZ s=true/\g'=g/\AJ (fun k=>w.heap.size<=k) 1 w' v (.lit (.string s))) \/
   (Pl.isNum s=false/\Pl.DZ s=false/\v=.pointer none))
theorem pW{dp:Int}{s:List UInt8}{x:Int}(d:w.grownBy wr (some b))(e:Rd wr b L at_ dp (g||(Pl.ES (Pl.EY s)).2))(f:Pl.isNum s=true)
  (h:x=if Pl.minus s then -((Pl.ES (Pl.EY s)).1:Int) else((Pl.ES (Pl.EY s)).1:Int)) :
  OM w b L at_ dp g s (.returned (.pointer (some ⟨wr.heap.size,0,none⟩))) (wr.alloc (.cells #[PU,.int .i64 x,tI,.slice none 0 0] TD)):=by
 refine⟨_,_,rfl,aC d (World.grownBy_alloc _ _ _),e.alloc _,.inl ⟨f,by rw [Pl.OA];rfl,⟨wr.heap.size,rfl,d.size,x,heap_alloc_new _ _,?_⟩⟩⟩;intro c;rw [h];unfold gW Pl.F3 at c;unfold Pl.F3;by_cases a:Pl.minus s=true
 ·rw [if_pos a] at c;rw [if_pos a,if_pos a,Pl.MF _ (by omega)]
 ·rw [if_neg a] at c;rw [if_neg a,if_neg a,Pl.MF _ (by omega)]
theorem qG(b:Nat)(s:ByteArray)(w:World)(L:Value)(l t:Int)(g:Bool)(G:Rd w b L l t g)(M:s.size<=1000) :Calls prog 71 #[.pointer (some ⟨b,0,none⟩),.string s] w fun e y=>OM w b L l t g s.data.toList e y:=by
 have C:=h_ G;clear G;go_enter func71,ntmps71;go_wp2_with fail;refine(rX s _ M).mono ?_;rintro e y ⟨N,rfl⟩;rcases N with⟨r,d,D,O,rfl⟩ | ⟨r,d,T,rfl⟩
 ·have u:=h_ r;have H:=h_ D;have I:Hid (∀j (h:j<d.data.toList.length),A3 d.data.toList[j]=true):=fun j h=>Pl.ZG _ (by have:=r;unfold Pl.isNum at this;rw [<- D] at this;exact this) j h;clear r D;go_wp2_with fail
  go_loopw [10,11] (fun P i wr=>∃k:Nat,k<=d.size/\i=.int .i64 k/\P=.int .i64 ((Pl.ES (d.data.toList.take k)).1:Int)/\Hid (w.grownBy wr (some b))/\Hid (Rd wr b L l t (g||(Pl.ES (d.data.toList.take k)).2)))
   (fun _ i _=>d.size-(intOf i).toNat)
  case atStart=>exact⟨0,Nat.zero_le _,rfl,rfl,World.grownBy.refl _ _,show Rd w b L l t _ from by have:=C.out;simpa [Pl.ES] using this⟩
  case round =>
   obtain⟨k,Q,rfl,rfl,z,f⟩:=hrel;have p:=Pl.UI (d.data.toList.take k);by_cases a:k<d.size
   ·have q:k<d.data.toList.length:=by simpa using a
    have c:=bE d k a;have m:=Pl.K2 _ (I k q);have n:=Pl.K4 (d.data.toList.take k) (d.data.toList[k]);rw [<- Pl.RA _ _ q,c] at n;rw [c] at m;unfold Pl.KZ Pl.CG at n;unfold Pl.CG at p;have A:=h_ n;generalize (Pl.ES (d.data.toList.take k)).1=U at *;have V:=f.cells.2.2.2;have W:=aF f 3;clear n c q;go_wp2_with fail
    ·refine⟨⟨k+1,by omega,by go_num,?_,aC z (aE _ _ _ _),?_⟩,by simp [intOf];omega⟩
     ·rw [A.out,if_pos (by omega)];rfl
     ·show Rd _ _ _ _ _ _;rw [A.out,if_pos (by omega),Bool.or_true];exact f.FA true
    ·refine⟨⟨k+1,by omega,by go_num,?_,z,?_⟩,by simp [intOf];omega⟩
     ·rw [A.out,if_neg (by omega)];show Value.int _ _=Value.int _ _
      congr 1
      dsimp only;omega
     ·show Rd _ _ _ _ _ _;rw [A.out,if_neg (by omega)];exact f
   ·have B:d.data.toList.take k=Pl.EY s.data.toList:=by rw [List.take_of_length_le (by simp;omega)];exact H
    rw [B] at p;rw [B];have o:Hid (Rd wr b L l t (g||(Pl.ES (Pl.EY s.data.toList)).2)):=by rw [<- B];exact f
    clear B f H I;unfold Pl.CG at p;generalize J:(Pl.ES (Pl.EY s.data.toList)).1=X at *;have K:=h_ J;clear J;go_wp2_with fail
    ·go_ret;exact pW z o u (by rw [if_pos ‹_›,K.out])
    ·go_ret;exact pW z o u (by rw [if_neg (by simp [*]),K.out])
 ·have u:=h_ r;clear r;go_wp2_with fail
  go_loopw [8] (fun i R=>∃k:Nat,k<=s.size/\i=.int .i64 k/\w=R/\Hid (∀j (h:j<s.data.toList.length),j<k->(!A3 s.data.toList[j])=true)) (fun i _=>s.size-(intOf i).toNat)
  case atStart=>exact⟨0,Nat.zero_le _,rfl,rfl,fun j _ S=>by omega⟩
  case round =>
   obtain⟨k,Q,rfl,rfl,v⟩:=hrel;by_cases a:k<s.size
   ·have c:=bE s k a;by_cases m:A3 (s[k]'a)=true
    ·have E:Hid (Pl.DZ s.data.toList=false):=Pl.GJ _ k (by simpa using a) (by rw [c,m];rfl);clear c v;go_wp2_with (go_at_call 119;refine(bI (s[k]'a) _).mono ?_;rintro e y ⟨rfl,rfl⟩);go_ret;exact⟨_,g,rfl,World.grownBy.refl _ _,C,.inr (.inr ⟨u,E,rfl⟩)⟩
    ·have x:A3 (s[k]'a)=false:=by simpa using m
     have F:Hid (∀j (h:j<s.data.toList.length),j<k+1->(!A3 s.data.toList[j])=true):=by
      intro j h S;by_cases e:j=k
      ·subst e;rw [c,x];rfl
      ·exact v.out j h (by omega)
     clear c v m;go_wp2_with (go_at_call 119;refine(bI (s[k]'a) _).mono ?_;rintro e y ⟨rfl,rfl⟩);exact⟨⟨k+1,by omega,by go_num,trivial,F⟩,by simp [intOf];omega⟩
   ·have E:Hid (Pl.DZ s.data.toList=true):=Pl.I2 _ fun j h=>v.out j h (by simp at h;omega);clear v;go_wp2_with fail;go_ret;refine⟨_,g,rfl,World.grownBy_alloc _ _ _,C.alloc _,.inr (.inl ⟨u,E,rfl,?_⟩)⟩;refine⟨w.heap.size,rfl,n_,(heap_alloc_new _ _).trans ?_⟩;unfold eB;simp [ZJ,TD]
def DR(w:World)(L:Value)(all:List (List UInt8)):Prop:=w.ownsRow 0 9 1 L all.length (all.map eB)
theorem DR.keep{w':World}{c:Array Value}{f:Nat×Nat}(h:DR w L all)(i:w.grownBy w' (some b))(j:w.heap[b]?=some (.cells c TR f)):DR w' L all:=by
 refine World.ownsRow.kept h i ?_;by_cases d:L.ownBlock=some b
 ·exfalso;rcases h.2 with⟨e,_⟩ | ⟨g,k,l,e,_,a,_⟩
  ·subst e;simp [Value.ownBlock] at d
  ·subst e;simp only [Value.ownBlock,o_] at d;subst d;rw [j] at a;simp only [o_,Obj.cells.injEq] at a;have:=a.2.1;simp [TR] at this
 ·exact .inr d
def IK(n:Nat)(w:World)(b:Nat)(L:Value)(all:List (List UInt8))(dp de:Nat)(g:Bool)(l:List (List UInt8))(e:Ending)(w':World):Prop :=
 w.grownBy w' (some b) /\
 match Pl.pd n l with
 | none=>e=.returned (.pointer none)
 | some p=>∃v,e=.returned v/\AJ (fun k=>w.heap.size<=k) n w' v p.t/\Rd w' b L ((all.length-p.q.length:Nat):Int) ((max dp (de+p.dp):Nat):Int) (g||p.gr)
def NF(n:Nat):Prop:=∀(w:World)(b:Nat)(L:Value) (all l:List (List UInt8)) (dp de:Nat) (g:Bool),Rd w b L ((all.length-l.length:Nat):Int) (dp:Int) g->DR w L all->l <:+ all->l.length<=n->all.length<=1000 ->
 de+l.length<=2000->de<=dp->(∀t∈all,t.length<=1000)->∀x:Int,x=(de:Int)->Calls prog 72 #[.pointer (some ⟨b,0,none⟩),.int .i64 x] w fun e w'=>IK n w b L all dp de g l e w'
theorem dM(h:DR w L all):∃d a,L=.slice d all.length a/\all.length<=a/\∀(i:Nat)(t:List UInt8),all[i]?=some t->∃g,d=some ⟨g,0,none⟩/\w.cell? ⟨g,i,none⟩=some (.string ⟨t.toArray⟩):=by
 rcases h.2 with⟨b,e⟩ | ⟨g,a,f,b,_,l,j,_,_,m⟩
 ·have:all=[]:=e_ e;subst this;exact⟨none,0,b,n_,fun i t c=>by simp at c⟩
 ·refine⟨some ⟨g,0,none⟩,a,b,j,fun i t c=>⟨g,rfl,?_⟩⟩;have k:(all.map eB)[i]?=some (eB t):=by rw [List.getElem?_map,c];rfl
  have:=h.cells (g:=g) (by rw [b];rfl) i (eB t) k
  rwa [show(⟨g,0,none⟩:Addr).add i=⟨g,i,none⟩ from by rw [Addr.add_lit,Nat.zero_add]] at this
theorem fV(n:Nat)(w:World)(b:Nat)(L:Value)(a:List (List UInt8))(f h:Nat)(g:Bool)(i:Rd w b L ((a.length-0:Nat):Int) (f:Int) g)(j:DR w L a) :Calls prog 72 #[.pointer (some ⟨b,0,none⟩),.int .i64 h] w fun e l=>IK n w b L a f h g [] e l:=by
 obtain⟨o,m,rfl,k,c⟩:=dM j;obtain⟨p,q,r,s⟩:=i.cells;have d:Hid (Pl.pd n []=none):=by cases n<;>rfl
 clear i j c;go_enter func72,ntmps72;go_wp2_with fail
 go_quiet (fail)
 go_wp2_with fail
 go_ret;refine⟨⟨rfl,rfl,rfl,n_,fun _ _ _=>rfl⟩,?_⟩;rw [d.out];rfl
theorem bK{a b:World}{row:Option Nat}(h:a.grownBy b row)(n:Nat):a.grownBy (b.drewN n) row:=⟨h.os,h.tape,h.output,h.size,h.block⟩
theorem cK(a:World)(n:Nat)(row:Option Nat):a.grownBy (a.drewN n) row:=bK (World.grownBy.refl _ _) n
theorem AJ.drewN{m:Nat}{t:Tr}(h:AJ ok n w v t):AJ ok n (w.drewN m) v t:=AJ.keep (w:=w) (w':=w.drewN m) (fun _ _ _ _ _ h=>h) n v t h
theorem Rd.drewN{dp:Int}(h:Rd w b L at_ dp g)(m:Nat):Rd (w.drewN m) b L at_ dp g:=h
theorem Rd.cast{at2 dp dp2:Int}{g2:Bool}(h:Rd w b L at_ dp g)(a:at_=at2)(c:dp=dp2)(d:g=g2):Rd w b L at2 dp2 g2:=by subst a c d;exact h
theorem iS(h:t::r <:+ all):all.length-(t::r).length+1=all.length-r.length:=by have:=h.length_le;simp only [c_] at this ⊢;omega
theorem dI{w':World}{l:List (List UInt8)}{p:Pl.PR}{a d:Int}{g':Bool}(e:Pl.pd n l=some p)(i:w.grownBy w' (some b))(c:AJ (fun k=>w.heap.size<=k) n w' v p.t)
  (f:Rd w' b L a d g') (j:a=((all.length-p.q.length:Nat):Int)) (m:d=((max dp (de+p.dp):Nat):Int)) (h:g'=(g||p.gr)):IK n w b L all dp de g l (.returned v) w':=by
 refine⟨i,?_⟩;rw [e];exact⟨v,rfl,c,f.cast j m h⟩
theorem cB{o:Obj}{k:Nat}(h:k=w.heap.size):(w.alloc o).heap[k]?=some o:=by subst h;exact heap_alloc_new _ _
theorem fR(w:World)(a:Addr)(v:Value):(w.setCell a v).heap.size=w.heap.size:=by simp [World.setCell]
theorem kI(n:Nat)(w:World)(b:Nat)(L:Value)(c:List (List UInt8))(t:List UInt8)(r:List (List UInt8))(H I:Nat)(g:Bool)(o:Rd w b L ((c.length-(t::r).length:Nat):Int) (H:Int) g)(J:DR w L c)(d:t::r <:+ c)(P:c.length<=1000)(p:∀t∈c,t.length<=1000)(S:I<=H)(q:¬t=[40])(s:¬t=[39]) :Calls prog 72 #[.pointer (some ⟨b,0,none⟩),.int .i64 I] w fun e K=>IK (n+1) w b L c H I g (t::r) e K:=by
 obtain⟨ao,T,rfl,Q,f⟩:=dM J;obtain⟨U,R⟩:=Pl.E9 d rfl;obtain⟨G,rfl,hc⟩:=f _ t (by rw [g_ U,R]);obtain⟨c0,c1,c2,c3⟩:=o.cells;have f1:=aF o 1;have f2:=aF o 2;generalize i:c.length-(t::r).length=M at *;have F:Hid (M+1=c.length-r.length):=by have:=iS d;rw [<- i];exact this
 have N:=h_ o;have u:t.length<=1000:=p t (d.subset (by simp));have HT:=h_ J;clear i R J f o p;have V:(t==[40])=false:=by simpa using q
 have W:(t==[39])=false:=by simpa using s
 by_cases j:t=[41]
 ·have a:=h_ (Pl.NR n t r j);go_enter func72,ntmps72;go_wp2_with fail
  go_quiet (fail)
  go_wp2_with fail
  go_quiet (fail)
  go_wp2_with fail
  go_ret;refine⟨aC (cK _ _ _) (aE _ _ _ _),?_⟩;rw [a.out];rfl
 have X:(t==[41])=false:=by simpa using j
 by_cases l:t=[35,116]
 ·have a:=h_ (Pl.QK n t r l);go_enter func72,ntmps72;go_wp2_with fail
  go_quiet (fail)
  go_wp2_with fail
  go_quiet (fail)
  go_wp2_with fail
  go_ret;refine dI a (aC (cK _ _ _) (aC (aE _ _ _ _) (World.grownBy_alloc _ _ _))) (AJ.up 1 _ _ _ (Nat.le_add_left _ _) ⟨w.heap.size,rfl,n_,cB (by rw [fR];rfl)⟩) (((N.drewN _).KE _).alloc _) ?_ ?_ ?_
  ·have:=F.out;dsimp only;omega
  ·simp;omega
  ·simp
 have Y:(t==[35,116])=false:=by simpa using l
 by_cases m:t=[35,102]
 ·have a:=h_ (Pl.NQ n t r m);go_enter func72,ntmps72;go_wp2_with fail
  go_quiet (fail)
  go_wp2_with fail
  go_quiet (fail)
  go_wp2_with fail
  go_ret;refine dI a (aC (cK _ _ _) (aC (aE _ _ _ _) (World.grownBy_alloc _ _ _))) (AJ.up 1 _ _ _ (Nat.le_add_left _ _) ⟨w.heap.size,rfl,n_,cB (by rw [fR];rfl)⟩) (((N.drewN _).KE _).alloc _) ?_ ?_ ?_
  ·have:=F.out;dsimp only;omega
  ·simp;omega
  ·simp
 ·have a:=h_ (Pl.QJ n t r j l m s q);have Z:(t==[35,102])=false:=by simpa using m
  go_enter func72,ntmps72
  go_wp2_with fail
  go_quiet (fail)
  go_wp2_with fail
  go_quiet (fail)
  go_wp2_with fail
  refine(qG b _ _ _ _ _ g ((N.drewN _).KE _) (show t.toArray.size<=1000 from by simpa using u)).mono ?_;rintro e K ⟨v,g',rfl,x,y,h⟩;have O:Hid (w.grownBy K (some b)):=aC (cK _ _ _) (aC (aE _ _ _ _) x);have z:=h_ y;have HC:=h_ h;clear x y h;go_wp2_with fail;go_ret;rcases HC.out with⟨A,B,C⟩ | ⟨A,B,C,h4⟩ | ⟨A,B,C⟩
  ·have D:Pl.pd (n+1) (t::r)=some ⟨.lit (.int .i64 (Pl.F3 t)),r,0,Pl.ER t⟩:=by rw [a.out];unfold Pl.pw;rw [if_pos A];rfl
   refine dI D O (AJ.up 1 _ _ _ (Nat.le_add_left _ _) (AJ.mono (fun k _ E=>?_) _ _ _ C)) z ?_ ?_ ?_
   ·rw [fR] at E;exact E
   ·have:=F.out;dsimp only;omega
   ·simp;omega
   ·exact B
  ·have D:Pl.pd (n+1) (t::r)=some ⟨.lit (.string t),r,0,false⟩:=by rw [a.out];unfold Pl.pw;rw [if_neg (by simp [A]),if_pos B];rfl
   refine dI D O (AJ.up 1 _ _ _ (Nat.le_add_left _ _) (AJ.mono (fun k _ E=>?_) _ _ _ h4)) z ?_ ?_ ?_
   ·rw [fR] at E;exact E
   ·have:=F.out;dsimp only;omega
   ·simp;omega
   ·simp [C]
  ·have D:Pl.pd (n+1) (t::r)=none:=by rw [a.out];unfold Pl.pw;rw [if_neg (by simp [A]),if_neg (by simp [B])];rfl
   refine⟨O,?_⟩;rw [D,C];rfl
theorem uK{l:List (List UInt8)}{p:Pl.PR}(h:Pl.pd n l=some p):∃m,n=m+1:=by
 cases n with
 | zero=>simp [Pl.pd] at h
 | succ m=>exact⟨m,rfl⟩
theorem mW{t:Tr}(h:AJ ok (n+1) w v t)(f:∀k,w.heap.size<=k->ok k)(b c d:Obj)
  (g:b=.cells #[ZJ,.int .i64 0,.string ⟨#[113,117,111,116,101]⟩,.slice none 0 0] TD (0,0))
  (j:c=.cells #[.pointer (some ⟨w.heap.size,0,none⟩),v] TP (0,0))
  (l:d=.cells #[s6,.int .i64 0,tI,.slice (some ⟨w.heap.size+1,0,none⟩) 2 2] TD (0,0)) :
  AJ ok (n+2) (((w.alloc b).alloc c).alloc d) (.pointer (some ⟨w.heap.size+1+1,0,none⟩)) (.agg [.lit (.string Pl.CB),t]):=by
 have m:Below w.heap.size w (((w.alloc b).alloc c).alloc d):=(((Below.refl _ w).alloc n_ b).alloc (by simp) c).alloc (by simp;omega) d;have o:(((w.alloc b).alloc c).alloc d).heap[w.heap.size]?=some b:=by rw [k_ (by simp;omega),k_ (by simp)];exact cB rfl
 have p:(((w.alloc b).alloc c).alloc d).heap[w.heap.size+1]?=some c:=by rw [k_ (by simp)];exact cB (by simp)
 have q:(((w.alloc b).alloc c).alloc d).heap[w.heap.size+1+1]?=some d:=cB (by simp);refine⟨w.heap.size+1+1,rfl,f _ (by omega),.slice (some ⟨w.heap.size+1,0,none⟩) 2 2,[.pointer (some ⟨w.heap.size,0,none⟩),v],by rw [q,l],?_,?_,?_,by simp⟩
 ·intro r s;simp only [Value.ownBlock,o_] at s;exact f r (by omega)
 ·refine⟨rfl,.inr ⟨w.heap.size+1,2,_,rfl,Nat.zero_le _,by rw [p,j],by simp,by simp [maxLen],rfl,rfl⟩⟩
 ·intro i u x a e
  match i,a,e with
  | 0,a,e =>simp only [List.getElem?_cons_zero,o_] at a e;subst a e;exact AJ.up 1 _ _ _ (by omega) ⟨w.heap.size,rfl,f _ n_,by rw [o,g];rfl⟩
  | 1,a,e =>simp only [List.getElem?_cons_succ,List.getElem?_cons_zero,o_] at a e;subst a e;exact AJ.keep (CU.AA m) _ _ _ h
  | (i+2),a,e=>simp at a
theorem i8(n:Nat)(P:NF n)(w:World)(b:Nat)(L:Value)(c:List (List UInt8))(r:List (List UInt8))(E x:Nat)(g:Bool)(F:Rd w b L ((c.length-([39]::r).length:Nat):Int) (E:Int) g)(N:DR w L c)(d:[39]::r <:+ c)(H:([39]::r).length<=n+1)(y:c.length<=1000)(z:x+([39]::r).length<=2000)(W:x<=E)(o:∀t∈c,t.length<=1000) :Calls prog 72 #[.pointer (some ⟨b,0,none⟩),.int .i64 x] w fun e X=>IK (n+1) w b L c E x g ([39]::r) e X:=by
 have A:=o;have Q:=h_ P;clear P;obtain⟨t,R⟩:∃t:List UInt8,t=[39]:=⟨_,rfl⟩
 rw [<- R] at F d;obtain⟨ao,I,rfl,S,q⟩:=dM N;obtain⟨Y,T⟩:=Pl.E9 d rfl;obtain⟨G,rfl,hc⟩:=q _ t (by rw [g_ Y,T]);obtain⟨c0,c1,c2,c3⟩:=F.cells;have f1:=aF F 1;have f2:=aF F 2;generalize B:c.length-(t::r).length=O at *;have U:Hid (O+1=c.length-r.length):=by have:=iS d;rw [<- B];exact this
 have M:=h_ F;have J:t.length<=1000:=o t (d.subset (by simp));have V:=h_ N;clear B T N q F o;subst R;have o:=A;clear A J;have Z:r.length<=1000:=by have:=d.length_le;simp at this;omega
 by_cases hd:E<x+1
 ·go_enter func72,ntmps72
  go_wp2_with fail
  go_quiet (fail)
  go_wp2_with fail
  go_quiet (fail)
  go_wp2_with fail
  refine(Q _ b (.slice (some ⟨G,0,none⟩) c.length I) c r (max E (x+1)) (x+1) g ((((M.drewN _).KE _).WU _).cast (by have:=U.out;omega) (by omega) rfl) (V.keep (aC (cK w _ (some b)) (aC (aE _ _ _ _) (aE _ _ _ _))) M) ((List.suffix_cons _ _).trans d) (by simp at H;omega) y (by simp at z;omega) (by omega) o _ (by omega)).mono ?_;rintro e K ⟨i,a⟩;have C:Hid (w.grownBy K (some b)):=aC (aC (cK w _ (some b)) (aC (aE _ _ _ _) (aE _ _ _ _))) i
  cases j:Pl.pd n r with
  | none =>
   rw [j] at a;dsimp only at a;subst a;have l:Hid (Pl.pd (n+1) ([39]::r)=none):=by show Pl.pd _ _=_;rw [Pl.H6 n _ r rfl,j];rfl
   clear j i;go_wp2_with fail;go_ret;refine⟨C,?_⟩;rw [l.out];rfl
  | some p =>
   rw [j] at a;obtain⟨v,rfl,f,h⟩:=a;have l:Hid (Pl.pd (n+1) ([39]::r)=some ⟨.agg [.lit (.string Pl.CB),p.t],p.q,p.dp+1,p.gr⟩):=by show Pl.pd _ _=_;rw [Pl.H6 n _ r rfl,j];rfl
   obtain⟨m,rfl⟩:=uK j;clear j i;have s:Hid (AJ (fun k=>w.heap.size<=k) (m+1) K v p.t):=by refine AJ.mono ?_ _ _ _ f;intro k _ D;exact t_ (aC (cK w _ (some b)) (aC (aE _ _ _ _) (aE _ _ _ _))).size D
   have u:=h_ h;obtain⟨vb,rfl,_⟩:=f;clear h;go_wp2_with fail;go_ret;refine dI l (aC C (aC (World.grownBy_alloc _ _ _) (aC (World.grownBy_alloc _ _ _) (World.grownBy_alloc _ _ _)))) (mW s (fun k D=>t_ C.size D) _ _ _ rfl rfl rfl) (((u.alloc _).alloc _).alloc _) ?_ ?_ ?_
   ·rfl
   ·dsimp only;omega
   ·rfl
 ·go_enter func72,ntmps72
  go_wp2_with fail
  go_quiet (fail)
  go_wp2_with fail
  go_quiet (fail)
  go_wp2_with fail
  refine(Q _ b (.slice (some ⟨G,0,none⟩) c.length I) c r (max E (x+1)) (x+1) g (((M.drewN _).KE _).cast (by have:=U.out;omega) (by omega) rfl) (V.keep (aC (cK w _ (some b)) (aE _ _ _ _)) M) ((List.suffix_cons _ _).trans d) (by simp at H;omega) y (by simp at z;omega) (by omega) o _ (by omega)).mono ?_;rintro e K ⟨i,a⟩;have C:Hid (w.grownBy K (some b)):=aC (aC (cK w _ (some b)) (aE _ _ _ _)) i
  cases j:Pl.pd n r with
  | none =>
   rw [j] at a;dsimp only at a;subst a;have l:Hid (Pl.pd (n+1) ([39]::r)=none):=by show Pl.pd _ _=_;rw [Pl.H6 n _ r rfl,j];rfl
   clear j i;go_wp2_with fail;go_ret;refine⟨C,?_⟩;rw [l.out];rfl
  | some p =>
   rw [j] at a;obtain⟨v,rfl,f,h⟩:=a;have l:Hid (Pl.pd (n+1) ([39]::r)=some ⟨.agg [.lit (.string Pl.CB),p.t],p.q,p.dp+1,p.gr⟩):=by show Pl.pd _ _=_;rw [Pl.H6 n _ r rfl,j];rfl
   obtain⟨m,rfl⟩:=uK j;clear j i;have s:Hid (AJ (fun k=>w.heap.size<=k) (m+1) K v p.t):=by refine AJ.mono ?_ _ _ _ f;intro k _ D;exact t_ (aC (cK w _ (some b)) (aE _ _ _ _)).size D
   have u:=h_ h;obtain⟨vb,rfl,_⟩:=f;clear h;go_wp2_with fail;go_ret;refine dI l (aC C (aC (World.grownBy_alloc _ _ _) (aC (World.grownBy_alloc _ _ _) (World.grownBy_alloc _ _ _)))) (mW s (fun k D=>t_ C.size D) _ _ _ rfl rfl rfl) (((u.alloc _).alloc _).alloc _) ?_ ?_ ?_
   ·rfl
   ·dsimp only;omega
   ·rfl
theorem AJ.ptr{t:Tr}(h:AJ ok n w v t):∃b,v=.pointer (some ⟨b,0,none⟩):=by
 cases n with
 | zero=>exact h.elim
 | succ n=>obtain⟨b,a,_⟩:=h;exact⟨b,a⟩
structure G6(n:Nat)(w wr:World)(b G:Nat)(L:Value)(all r:List (List UInt8))(dp de:Nat)(g:Bool)(q:List (List UInt8))(kids:Value)(ts:List Tr)(vs:List Value)(dpk:Nat)(gk:Bool):Prop where
 LQ:q <:+ all
 len:ts.length+q.length<=r.length
 lf:Pl.LF (Pl.pd n) r ts dpk gk q
 rd:Rd wr b L ((all.length-q.length:Nat):Int) ((max dp (de+1+dpk):Nat):Int) (g||gk)
 BX:DR wr L all
 out:wr.heap[G]?=some (.cells #[s6,.int .i64 0,tI,kids] TD (0,0))
 row:wr.ownsRow (G+1) TP 1 kids ts.length vs
 KG:∀(i:Nat)(u:Value)(x:Tr),vs[i]?=some u->ts[i]?=some x->AJ (fun k=>G<k/\kids.ownBlock≠some k) n wr u x
 grown:w.grownBy wr (some b)
 FH:w.heap.size<=G
 bG:b<w.heap.size
theorem G6.start{w1:World}(a:r <:+ all)(e:Rd w1 b L ((all.length-r.length:Nat):Int) ((max dp (de+1):Nat):Int) g)(f:DR w1 L all)
  (c:w.grownBy w1 (some b)) (h:b<w.heap.size) (o:Obj) (j:o=.cells #[s6,.int .i64 0,tI,.slice none 0 0] TD (0,0)) (G:Nat) (d:G=w1.heap.size) :
  G6 n w (w1.alloc o) b G L all r dp de g r (.slice none 0 0) [] [] 0 false where
 LQ:=a
 len:=by simp
 lf:=Pl.LF.start _ _
 rd:=(e.alloc o).cast rfl (by omega) (by simp)
 BX:=World.ownsRow.alloc f o
 out:=by rw [cB d,j]
 row:=World.ownsRow_nil _ _ _ _
 KG:=fun i u x k=>by simp at k
 grown:=aC c (World.grownBy_alloc _ _ _)
 FH:=by rw [d];exact c.size
 bG:=h
theorem G6.ltG{a:List Tr}(h:G6 n w wr b G L all r dp de g q kids a vs dpk gk):G<wr.heap.size:=aB h.out
theorem G6.drewN{a:List Tr}(h:G6 n w wr b G L all r dp de g q kids a vs dpk gk)(m:Nat):G6 n w (wr.drewN m) b G L all r dp de g q kids a vs dpk gk :=⟨h.LQ,h.len,h.lf,h.rd,h.BX,h.out,h.row,fun i u x c d=>AJ.drewN (h.KG i u x c d),bK h.grown m,h.FH,h.bG⟩
theorem mM{cap:Nat}(h:DR w (.slice (some ⟨G,0,none⟩) all.length cap) all){i:Nat}(hi:all[i]?=some t):w.cell? ⟨G,i,none⟩=some (.string ⟨t.toArray⟩):=by
 have a:(all.map eB)[i]?=some (eB t):=by rw [List.getElem?_map,hi];rfl
 have:=h.cells (g:=G) rfl i (eB t) a
 rwa [show(⟨G,0,none⟩:Addr).add i=⟨G,i,none⟩ from by rw [Addr.add_lit,Nat.zero_add]] at this
def mOf(all:List (List UInt8))(b:Nat)(wr:World):Nat:=all.length-(intOf ((wr.cell? ⟨b,1,none⟩).getD undef)).toNat
theorem G6.m{a:List Tr}(h:G6 n w wr b G L all r dp de g q kids a vs dpk gk):mOf all b wr=q.length:=by unfold mOf;rw [h.rd.cells.2.1];have:=h.LQ.length_le;simp [intOf];omega
structure LMid(n:Nat)(w w2:World)(b G:Nat)(L:Value)(all r:List (List UInt8))(dp de:Nat)(g:Bool)(t:List UInt8)(q0:List (List UInt8))(kids:Value)(ts:List Tr)(vs:List Value)(p:Pl.PR)(v:Value)(dpk:Nat)(gk:Bool):Prop where
 LQ:p.q <:+ all
 len:ts.length+1+p.q.length<=r.length
 lf:Pl.LF (Pl.pd n) r (ts++[p.t]) (max dpk p.dp) (gk||p.gr) p.q
 rd:Rd w2 b L ((all.length-p.q.length:Nat):Int) ((max dp (de+1+max dpk p.dp):Nat):Int) (g||(gk||p.gr))
 BX:DR w2 L all
 out:w2.heap[G]?=some (.cells #[s6,.int .i64 0,tI,kids] TD (0,0))
 row:w2.ownsRow (G+1) TP 1 kids ts.length vs
 KG:∀(i:Nat)(u:Value)(x:Tr),vs[i]?=some u->ts[i]?=some x->AJ (fun k=>G<k/\kids.ownBlock≠some k) n w2 u x
 new:AJ (fun k=>G<k/\kids.ownBlock≠some k) n w2 v p.t
 grown:w.grownBy w2 (some b)
 FH:w.heap.size<=G
 bG:b<w.heap.size
 lenq:q0.length<q0.length+1/\t=t
 q_lt:p.q.length<q0.length+1
theorem G6.call{w2:World}{q0:List (List UInt8)}{q:List Tr}{p:Pl.PR}
  (h:G6 n w wr b G L all r dp de g (t::q0) kids q vs dpk gk) (z:¬t=[41]) (hp:Pl.pd n (t::q0)=some p) (c:wr.grownBy w2 (some b)) (d:AJ (fun k=>wr.heap.size<=k) n w2 v p.t)
  (l:Rd w2 b L ((all.length-p.q.length:Nat):Int) ((max (max dp (de+1+dpk)) (de+1+p.dp):Nat):Int) ((g||gk)||p.gr)) :
  LMid n w w2 b G L all r dp de g t q0 kids q vs p v dpk gk:=by
 have a:=Pl.FI n _ _ hp;have f:some G≠some b:=by have:=h.FH;have:=h.bG;intro e;simp only [o_] at e;omega
 have m:∀s,CU s wr w2:=fun s=>CU.DX c h.rd (by decide) (by decide);have j:=h.len;have y:=a.2;simp only [c_] at j y;refine⟨a.1.trans h.LQ,by omega,h.lf.more z hp a.2,l.cast rfl (by omega) (by rw [Bool.or_assoc]),h.BX.keep c h.rd,?_,?_,?_,?_,aC h.grown c,h.FH,h.bG,⟨by omega,rfl⟩,y⟩
 ·exact(c.block G h.ltG f).trans h.out
 ·refine h.row.kept c ?_;by_cases o:kids.ownBlock=some b
  ·have:=(h.row.lt b o).1;have:=h.FH;have:=h.bG;omega
  ·exact .inr o
 ·exact fun i u x A B=>AJ.keep (m _) _ _ _ (h.KG i u x A B)
 ·refine AJ.mono (fun k _ o=>?_) _ _ _ d;have:=h.ltG;refine⟨by omega,fun e=>?_⟩;have:=(h.row.lt k e).2;omega
theorem LMid.push{w2 w3:World}{q0:List (List UInt8)}{m:List Tr}{p:Pl.PR}{o:Obj}{g' cap':Nat}
  (h:LMid n w w2 b G L all r dp de g t q0 kids m vs p v dpk gk) (s:w3.ownsRow (G+1) TP 1 (.slice (some ⟨g',0,none⟩) (m.length+1) cap') (m.length+1) (vs++[v])) (F:(w2.alloc o).grownBy w3 kids.ownBlock) (R:kids.ownBlock=some g'\/g'=w2.heap.size+1) :
  w3.cell? ⟨G,3,none⟩=some kids/\w3.frozen? ⟨G,3,none⟩=false/\G6 n w (w3.setCell ⟨G,3,none⟩ (.slice (some ⟨g',0,none⟩) (m.length+1) cap')) b G L all r dp de g p.q (.slice (some ⟨g',0,none⟩) (m.length+1) cap') (m++[p.t]) (vs++[v]) (max dpk p.dp) (gk||p.gr):=by
 have H:G<w2.heap.size:=aB h.out;have Z:=h.bG;have aa:=h.FH;have A:=h.row.lt;have I:some G≠kids.ownBlock:=fun e=>by have:=(A G e.symm).1;omega
 have J:some b≠kids.ownBlock:=fun e=>by have:=(A b e.symm).1;omega
 have l:∀k,k<w2.heap.size->some k≠kids.ownBlock->w3.heap[k]?=w2.heap[k]? := fun k q B=>(F.block k (by simp;omega) B).trans (k_ q);have d:w3.heap[G]?=some (.cells #[s6,.int .i64 0,tI,kids] TD (0,0)):=(l G H I).trans h.out;generalize S:Value.slice (some ⟨g',0,none⟩) (m.length+1) cap'=a at *;have K:a.ownBlock=some g':=by rw [<- S];rfl
 have j:∀k,k≠G->(w3.setCell ⟨G,3,none⟩ a).heap[k]?=w3.heap[k]? := fun k q=>Below.heap_setCell _ _ _ _ q;have T:b<w2.heap.size:=aB h.rd;have Y:w2.heap.size<=w3.heap.size:=by have:=F.size;simp at this;omega
 have ab:G<g':=by have:=(s.lt g' K).1;omega
 have C:CU (fun k=>G<k/\kids.ownBlock≠some k) w2 (w3.setCell ⟨G,3,none⟩ a):=fun k M e c _ q=>by rw [j k (by omega),l k (aB q) (fun e=>c.2 e.symm)];exact q
 have z:∀(u:Value)(x:Tr),AJ (fun k=>G<k/\kids.ownBlock≠some k) n w2 u x->AJ (fun k=>G<k/\a.ownBlock≠some k) n (w3.setCell ⟨G,3,none⟩ a) u x:=by
  intro u x hr
  have Q:AJ (fun k=>(G<k/\kids.ownBlock≠some k)/\a.ownBlock≠some k) n w2 u x:=by
   refine AJ.mono (fun k q c=>⟨c,?_⟩) _ _ _ hr;rw [K];intro e;obtain rfl:=i_ e;rcases R with Q | Q
   ·exact c.2 Q
   ·omega
  have h2:=AJ.keep (C.mono (ok':=fun k=>(G<k/\kids.ownBlock≠some k)/\a.ownBlock≠some k) (fun k c=>c.1)) _ _ _ Q;exact AJ.mono (fun k _ c=>⟨c.1.1,c.2⟩) _ _ _ h2
 have D:(w3.setCell ⟨G,3,none⟩ a).ownsRow (G+1) TP 1 a (m.length+1) (vs++[v]):=ownsRow_setCell_below s (by show G<G+1;omega) _
 have N:DR (w3.setCell ⟨G,3,none⟩ a) L all:=by
  refine⟨h.BX.1,?_⟩;rcases h.BX.2 with hn | ⟨x,U,M,O,h0,f,P⟩
  ·exact .inl hn
  ·refine .inr ⟨x,U,M,O,h0,?_,P⟩;have V:x≠G:=by intro e;subst e;rw [h.out] at f;simp only [o_,Obj.cells.injEq] at f;have:=f.2.1;simp [TD] at this
   have W:some x≠kids.ownBlock:=by
    intro e;rcases h.row.2 with⟨O,_⟩ | ⟨y,_,_,O,_,hy,_⟩
    ·rw [O] at e;simp [Value.ownBlock] at e
    ·rw [O] at e;simp only [Value.ownBlock,o_] at e;subst e;rw [hy] at f;simp only [o_,Obj.cells.injEq] at f;have:=f.2.1;simp [TP] at this
   rw [j x V,l x (aB f) W];exact f
 refine⟨aA d 3,aF d 3,⟨h.LQ,by have:=h.len;simp;omega,h.lf,?_,N,?_,?_,?_,?_,h.FH,h.bG⟩⟩
 ·show(w3.setCell _ _).heap[b]?=_;rw [j b (by omega),l b T J];exact h.rd
 ·rw [aD d 3 a];rfl
 ·simpa using D
 ·intro i u x E f;by_cases hi:i<vs.length
  ·have X:=h.row.1;rw [List.getElem?_append_left hi] at E;rw [List.getElem?_append_left (by omega)] at f;exact z u x (h.KG i u x E f)
  ·have X:=h.row.1;have e:i=vs.length:=by have:=(s_ E).1;simp at this;omega
   subst e;rw [List.getElem?_append_right n_] at E;rw [List.getElem?_append_right (by omega)] at f;simp at E;have e2:vs.length-m.length=0:=by omega
   rw [e2] at f;simp at f;subst E f;exact z _ _ h.new
 ·refine⟨?_,?_,?_,?_,?_⟩
  ·exact F.os.trans h.grown.os
  ·exact F.tape.trans h.grown.tape
  ·exact F.output.trans h.grown.output
  ·have:=h.grown.size;rw [fR];omega
  ·intro k q B;have ac:=h.grown.size;rw [j k (by omega),l k (by omega) (fun e=>by have:=(A k e.symm).1;omega)];exact h.grown.block k q B
theorem G6.done{l:List Tr}(h:G6 n w wr b G L all r dp de g q kids l vs dpk gk)(m:r.length<=1000)(x:Int) :AJ (fun k=>w.heap.size<=k) (n+1) (wr.setCell ⟨b,1,none⟩ (.int .i64 x)) (.pointer (some ⟨G,0,none⟩)) (.agg l):=by
 have p:∀o,CU o wr (wr.setCell ⟨b,1,none⟩ (.int .i64 x)):=fun o=>CU.DX (aE _ _ _ _) h.rd (by decide) (by decide);have d:=h.FH;refine AJ.keep (p _) _ _ _ ⟨G,rfl,d,kids,vs,h.out,?_,?_,?_,by have:=h.len;omega⟩
 ·intro r m;have:=(h.row.lt r m).1;omega
 ·exact⟨h.row.1,h.row.2.imp id (fun⟨g,e,f,a,b,c⟩=>⟨g,e,f,a,Nat.zero_le _,c⟩)⟩
 ·intro i u y s t;exact AJ.mono (fun k _ j=>by have:=j.1;omega) _ _ _ (h.KG i u y s t)
end
end Go.Proofs.YtkgbdddkcjpgfaaGreatDoor
