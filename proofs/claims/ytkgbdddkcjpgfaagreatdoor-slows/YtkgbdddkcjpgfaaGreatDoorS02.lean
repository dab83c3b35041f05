import Derived.Test.YtkgbdddkcjpgfaaGreatDoorProg
import Derived.Conc.MuLone
import Derived.KernelRfl
import GoSem.ClaimWide
import Derived.Test.YtkgbdddkcjpgfaaGreatDoorS01
import Derived.Maps.OwnSet
namespace Go.Proofs.YtkgbdddkcjpgfaaGreatDoor
set_option maxHeartbeats 2000000
set_option maxRecDepth 100000
open Go.Proofs.Tryz
section
abbrev muLink:Go.Conc.Locks.MuLink:={lock:=166,unlock:=167,ilock:=191,iunlock:=192,lockSlow:=209,unlockSlow:=211,disable:=97,enable:=99,acquire:=100,relMerge:=132,cas32:=208,add32:=210,tMutex:=125,tIMutex:=123,tPMutex:=370,tPIMutex:=381,tPI32:=383,tUP:=198,tNoCopy:=98,tU32:=104}
theorem zR:Go.Conc.Locks.MuLib prog muLink :=
 ⟨func166,func167,func191,func192,func97,func99,func100,func132,func208,func210,
  underlying123,Tryz.runUnderlying123,Tryz.sizeOf123,Tryz.isAgg123,Tryz.zeroValue123,underlying125,Tryz.runUnderlying125,Tryz.sizeOf125,Tryz.isAgg125,Tryz.zeroValue125,underlying370,Tryz.runUnderlying370,Tryz.sizeOf370,Tryz.isAgg370,Tryz.zeroValue370,underlying381,Tryz.runUnderlying381,Tryz.sizeOf381,Tryz.isAgg381,Tryz.zeroValue381,underlying383,Tryz.runUnderlying383,Tryz.sizeOf383,Tryz.isAgg383,Tryz.zeroValue383,underlying198,Tryz.runUnderlying198,Tryz.sizeOf198,Tryz.isAgg198,Tryz.zeroValue198,underlying98,Tryz.runUnderlying98,Tryz.sizeOf98,Tryz.isAgg98,Tryz.zeroValue98,underlying21,Tryz.runUnderlying21,Tryz.sizeOf21,Tryz.isAgg21,Tryz.zeroValue21,(by kernel_rfl)⟩
end
section
open Go.RowKit
variable {w w' a:World} {b:Nat} {ok:Nat->Prop} {L:Value} {at_ dp:Int} {g:Bool} {c:Array Value} {T:TypeId}
abbrev Tr:=DataW Unit
def TD:TypeId:=239
def TP:TypeId:=135
def TR:TypeId:=138
def kNum:Value:=.string ⟨#[110,117,109,98,101,114]⟩
def kNam:Value:=.string ⟨#[110,97,109,101]⟩
def kTru:Value:=.string ⟨#[116,114,117,116,104]⟩
def s6:Value:=.string ⟨#[108,105,115,116]⟩
def tI:Value:=.string ⟨#[]⟩
def gW(m:Int):Prop:=-(Pl.big:Int)<=m/\m<=(Pl.big:Int)
def RepR(ok:Nat->Prop):Nat->World->Value->Tr->Prop
 | 0,_,_,_=>False
 | n+1,w,v,t=>∃b,v=.pointer (some ⟨b,0,none⟩)/\ok b /\
  match t with
  | .lit (.int _ m)=>∃k:Int,w.heap[b]?=some (.cells #[kNum,.int .i64 k,tI,.slice none 0 0] TD (0,0))/\(gW m->k=m)
  | .lit (.bool x)=>w.heap[b]?=some (.cells #[kTru,.int .i64 (if x then 1 else 0),tI,.slice none 0 0] TD (0,0))
  | .lit (.string s)=>w.heap[b]?=some (.cells #[kNam,.int .i64 0,eB s,.slice none 0 0] TD (0,0))
  | .agg ts=>∃kids vs,w.heap[b]?=some (.cells #[s6,.int .i64 0,tI,kids] TD (0,0))/\(∀r,kids.ownBlock=some r->ok r)/\w.ownsRow 0 TP 1 kids ts.length vs /\
    (∀(i:Nat)(u:Value)(x:Tr),vs[i]?=some u->ts[i]?=some x->RepR ok n w u x)/\ts.length<=1000
  | _=>False
def KeepD(ok:Nat->Prop)(w w':World):Prop:=∀(k:Nat)(cur:Array Value)(e:TypeId),ok k->e=TD\/e=TP->w.heap[k]?=some (.cells cur e (0,0))->w'.heap[k]?=some (.cells cur e (0,0))
theorem aB{k:Nat}{o:Obj}(h:w.heap[k]?=some o):k<w.heap.size:=(Array.getElem?_eq_some_iff.1 h).1
theorem KeepD.of_below(h:Below w.heap.size w w'):KeepD ok w w':=fun k _ _ _ _ hk=>(h.block k (aB hk)).trans hk
theorem KeepD.of_grown{f:Nat×Nat}(hg:w.grownBy w' (some b))(hb:w.heap[b]?=some (.cells c T f))(h1:T≠TD)(h2:T≠TP):KeepD ok w w':=by
 intro k cur e _ ht hk
 have hne:some k≠some b:=by
  intro e1;obtain rfl:=Option.some.inj e1;rw [hb] at hk;simp only [Option.some.injEq,Obj.cells.injEq] at hk;rcases ht with rfl | rfl
  ·exact h1 hk.2.1
  ·exact h2 hk.2.1
 exact(hg.block k (aB hk) hne).trans hk
theorem KeepD.mono{ok':Nat->Prop}(h:KeepD ok w w')(hi:∀k,ok' k->ok k):KeepD ok' w w':=fun k cur e o=>h k cur e (hi k o)
theorem nO{v:Value}{n:Nat}{xs:List Value}(hk:KeepD ok w w')(ho:∀r,v.ownBlock=some r->ok r)(h:w.ownsRow 0 TP 1 v n xs):w'.ownsRow 0 TP 1 v n xs:=by
 refine⟨h.1,?_⟩;rcases h.2 with hn | ⟨g,cap,cur,rfl,hb,hg,rest⟩
 ·exact .inl hn
 ·exact .inr ⟨g,cap,cur,rfl,hb,hk g cur TP (ho g rfl) (.inr rfl) hg,rest⟩
theorem RepR.keep(hk:KeepD ok w w'):∀(n:Nat)(v:Value)(t:Tr),RepR ok n w v t->RepR ok n w' v t
 | 0,_,_,h=>h
 | n+1,v,t,h=>by
  obtain⟨b,hv,hb,h⟩:=h;refine⟨b,hv,hb,?_⟩
  match t,h with
  | .lit (.int _ m),⟨k,h1,h2⟩=>exact⟨k,hk b _ _ hb (.inl rfl) h1,h2⟩
  | .lit (.bool x),h=>exact hk b _ _ hb (.inl rfl) h
  | .lit (.string s),h=>exact hk b _ _ hb (.inl rfl) h
  | .agg ts,⟨kids,vs,h1,h2,h3,h4,h5⟩=>exact⟨kids,vs,hk b _ _ hb (.inl rfl) h1,h2,nO hk h2 h3,fun i u x hu hx=>RepR.keep hk n u x (h4 i u x hu hx),h5⟩
theorem RepR.mono{ok':Nat->Prop}(hi:∀k,k<w.heap.size->ok k->ok' k):∀(n:Nat)(v:Value)(t:Tr),RepR ok n w v t->RepR ok' n w v t
 | 0,_,_,h=>h
 | n+1,v,t,h=>by
  obtain⟨b,hv,hb,h⟩:=h
  match t,h with
  | .lit (.int _ m),⟨k,h1,h2⟩=>exact⟨b,hv,hi b (aB h1) hb,k,h1,h2⟩
  | .lit (.bool x),h=>exact⟨b,hv,hi b (aB h) hb,h⟩
  | .lit (.string s),h=>exact⟨b,hv,hi b (aB h) hb,h⟩
  | .agg ts,⟨kids,vs,h1,h2,h3,h4,h5⟩=>exact⟨b,hv,hi b (aB h1) hb,kids,vs,h1,fun r hr=>hi r (h3.lt r hr).2 (h2 r hr),h3,fun i u x hu hx=>RepR.mono hi n u x (h4 i u x hu hx),h5⟩
theorem RepR.up:∀(n m:Nat)(v:Value)(t:Tr),n<=m->RepR ok n w v t->RepR ok m w v t
 | 0,_,_,_,_,h=>h.elim
 | n+1,0,_,_,hm,_=>by omega
 | n+1,m+1,v,t,hm,h=>by
  obtain⟨b,hv,hb,h⟩:=h;refine⟨b,hv,hb,?_⟩
  match t,h with
  | .lit (.int _ m),h=>exact h
  | .lit (.bool x),h=>exact h
  | .lit (.string s),h=>exact h
  | .agg ts,⟨kids,vs,h1,h2,h3,h4,h5⟩=>exact⟨kids,vs,h1,h2,h3,fun i u x hu hx=>RepR.up n m u x (by omega) (h4 i u x hu hx),h5⟩
def Rd(w:World)(b:Nat)(L:Value)(at_ dp:Int)(g:Bool):Prop:=w.heap[b]?=some (.cells #[L,.int .i64 at_,.int .i64 dp,.bool g] TR (0,0))
theorem aA(h:w.heap[b]?=some (.cells c T (0,0)))(o:Nat):w.cell? ⟨b,o,none⟩=c[o]? := by simp [World.cell?,h]
theorem aF(h:w.heap[b]?=some (.cells c T (0,0)))(o:Nat):w.frozen? ⟨b,o,none⟩=false:=by simp [World.frozen?,h]
theorem Rd.cells(h:Rd w b L at_ dp g) :w.cell? ⟨b,0,none⟩=some L/\w.cell? ⟨b,1,none⟩=some (.int .i64 at_)/\w.cell? ⟨b,2,none⟩=some (.int .i64 dp)/\w.cell? ⟨b,3,none⟩=some (.bool g) :=⟨aA h 0,aA h 1,aA h 2,aA h 3⟩
theorem aD(h:w.heap[b]?=some (.cells c T (0,0)))(o:Nat)(v:Value):(w.setCell ⟨b,o,none⟩ v).heap[b]?=some (.cells (c.setIfInBounds o v) T (0,0)):=by simp [World.setCell,Array.getElem?_modify,h]
theorem aE(w:World)(b o:Nat)(v:Value):w.grownBy (w.setCell ⟨b,o,none⟩ v) (some b) :=⟨rfl,rfl,rfl,by simp [World.setCell],fun k _ hne=>Below.heap_setCell _ _ _ _ (fun e=>hne (by simp [e]))⟩
theorem aC{b c:World}{row:Option Nat}(h:a.grownBy b row)(k:b.grownBy c row):a.grownBy c row :=⟨k.os.trans h.os,k.tape.trans h.tape,k.output.trans h.output,Nat.le_trans h.size k.size,fun i hi hne=>(k.block i (Nat.lt_of_lt_of_le hi h.size) hne).trans (h.block i hi hne)⟩
theorem aQ{b:World}(row:Option Nat)(h:Below a.heap.size a b):a.grownBy b row:=⟨h.os,h.tape,h.output,h.size,fun k hk _=>h.block k hk⟩
theorem cS{b:World}(h:a.grownBy b none):Below a.heap.size a b:=⟨h.os,h.tape,h.output,h.size,fun k hk=>h.block k hk (by simp)⟩
theorem Rd.set1(h:Rd w b L at_ dp g)(x:Int):Rd (w.setCell ⟨b,1,none⟩ (.int .i64 x)) b L x dp g:=aD h 1 _
theorem Rd.set2(h:Rd w b L at_ dp g)(x:Int):Rd (w.setCell ⟨b,2,none⟩ (.int .i64 x)) b L at_ x g:=aD h 2 _
theorem Rd.set3(h:Rd w b L at_ dp g)(x:Bool):Rd (w.setCell ⟨b,3,none⟩ (.bool x)) b L at_ dp x:=aD h 3 _
theorem Rd.alloc(h:Rd w b L at_ dp g)(o:Obj):Rd (w.alloc o) b L at_ dp g:=(Below.heap_alloc w o b (aB h)).trans h
end
section
open Go.RowKit Go.Maps Go.MuLone
variable {ns:List (List UInt8)} {w:World} {tb mb:Nat}
def TTab:TypeId:=127
theorem lawS:Keyed prog 9:=string_keyed underlying9
theorem lawI:Keyed prog 3:=int_keyed underlying3
theorem zeroI(w:World):(zeroValue 3).run prog w=.ok (.int .i64 0) w:=by kernel_rfl
structure TabD(D:DataW Unit)(ns:List (List UInt8)):Prop where
 tidy:Tidy D
 size:Maps.size D=ns.length
 yes:∀(k:Nat)(s:List UInt8),ns[k]?=some s->Maps.has D (.string s)=true/\∀z,D.atKey (.string s) z=.lit (.int .i64 k)
 no:∀s,s∉ns->Maps.has D (.string s)=false
 nodup:ns.Nodup
theorem TabD.nil:TabD (.map []) []:=⟨tidy_empty,rfl,fun k s h=>by simp at h,fun s _=>rfl,List.nodup_nil⟩
theorem TabD.push{D:DataW Unit}(h:TabD D ns){s:List UInt8}(hs:s∉ns):TabD (D.put (.string s) (.lit (.int .i64 (ns.length:Int)))) (ns++[s]):=by
 have hk:WideAt.IsKeyLit (.string s):=trivial;refine⟨h.tidy.put hk _,by rw [size_put h.tidy,h.no s hs,h.size];simp,?_,?_,?_⟩
 ·intro k t ht;by_cases e:t=s
  ·subst e
   have:k=ns.length:=by
    rcases Nat.lt_or_ge k ns.length with hl | hl
    ·rw [List.getElem?_append_left hl] at ht;exact absurd (List.mem_of_getElem? ht) hs
    ·have:=(List.getElem?_eq_some_iff.1 ht).1;simp at this;omega
   subst this;exact⟨has_put_same h.tidy.isMap hk _,fun z=>atKey_put_same h.tidy.isMap hk _ z⟩
  ·have hne:(Lit.string t)≠.string s:=fun x=>e (by simpa using x)
   have hl:k<ns.length:=by
    rcases Nat.lt_or_ge k ns.length with hl | hl
    ·exact hl
    ·rw [List.getElem?_append_right hl] at ht;have hm:=List.mem_of_getElem? ht;simp at hm;exact absurd hm e
   rw [List.getElem?_append_left hl] at ht;obtain⟨h1,h2⟩:=h.yes k t ht;exact⟨by rw [has_put_other hne];exact h1,fun z=>by rw [atKey_put_other hne];exact h2 z⟩
 ·intro t ht;simp only [List.mem_append,List.mem_singleton,not_or] at ht;rw [has_put_other (fun x=>ht.2 (by simpa using x))];exact h.no t ht.1
 ·rw [List.nodup_append];refine⟨h.nodup,by simp,?_⟩;rintro a ha b hb;rintro rfl;simp at hb;subst hb;exact hs ha
structure Tab(w:World)(tb mb:Nat)(ns:List (List UInt8)):Prop where
 blk:w.heap[tb]?=some (.cells #[.int .i32 0,.int .u32 0,.map (some mb)] TTab (0,0))
 map:∃D:DataW Unit,w.ownsMap prog 9 (plainElem prog 3) mb ns.length D/\TabD D ns
theorem Tab.ne(h:Tab w tb mb ns):mb≠tb:=by rintro rfl;obtain⟨D,⟨es,cl,hb,_⟩,_⟩:=h.map;rw [h.blk] at hb;simp at hb
theorem Tab.lt(h:Tab w tb mb ns):tb<w.heap.size/\mb<w.heap.size:=⟨aB h.blk,by obtain⟨D,h1,_⟩:=h.map;exact h1.lt⟩
theorem Tab.keep{w':World}(h:Tab w tb mb ns)(h1:w'.heap[tb]?=w.heap[tb]?)(h2:w'.heap[mb]?=w.heap[mb]?):Tab w' tb mb ns:=by obtain⟨D,⟨es,cl,hb,r⟩,hD⟩:=h.map;exact⟨h1.trans h.blk,D,⟨es,cl,h2.trans hb,r⟩,hD⟩
def b9(ns:List (List UInt8))(s:List UInt8):List (List UInt8):=if s∈ns then ns else ns++[s]
theorem d8(ns:List (List UInt8))(s:List UInt8):(b9 ns s)[ns.idxOf s]?=some s:=by
 unfold b9;by_cases h:s∈ns
 ·rw [if_pos h];have hl:=List.idxOf_lt_length_of_mem h;rw [List.getElem?_eq_getElem hl,List.getElem_idxOf hl]
 ·rw [if_neg h,List.idxOf_eq_length h];simp
theorem pL(ns:List (List UInt8))(s:List UInt8):ns <+: b9 ns s:=by
 unfold b9;split
 ·exact List.prefix_refl _
 ·exact List.prefix_append _ _
theorem dE(ns:List (List UInt8))(s:List UInt8):(b9 ns s).length<=ns.length+1:=by unfold b9;split<;>simp
theorem sE(w:World):Calls prog 41 #[] w fun e w'=>e=.returned (.pointer (some ⟨w.heap.size+1,0,none⟩))/\Below w.heap.size w w'/\Tab w' (w.heap.size+1) w.heap.size []:=by
 have hmm:=@run_makeMap prog;go_enter func41,ntmps41;go_wp2;go_ret;refine⟨rfl,((Below.refl _ _).alloc (Nat.le_refl _) _).alloc (by simp) _,⟨?_,.map [],?_,TabD.nil⟩⟩
 ·have:=heap_alloc_new (w.alloc (.map #[] 0)) (.cells #[.int .i32 0,.int .u32 0,.map (some w.heap.size)] TTab);simpa [TTab] using this
 ·exact(World.ownsMap_made w _ _ _).alloc _
theorem nT{c:Array Value}{T:TypeId}(h:w.heap[tb]?=some (.cells c T (0,0)))(h0:c[0]?=some (.int .i32 0))(x:Value){w1:World}(hg:(w.setCell ⟨tb,0,none⟩ x).grownBy w1 (some mb))(hne:mb≠tb) :(w1.setCell ⟨tb,0,none⟩ (.int .i32 0)).heap[tb]?=w.heap[tb]? /\ w.grownBy (w1.setCell ⟨tb,0,none⟩ (.int .i32 0)) (some mb):=by
 have hlt:=aB h;have e0:w1.heap[tb]?=some (.cells (c.setIfInBounds 0 x) T (0,0)):=by rw [hg.block tb (by simpa [World.setCell] using hlt) (fun e=>hne (Option.some.inj e).symm)];exact aD h 0 x
 have e1:(w1.setCell ⟨tb,0,none⟩ (.int .i32 0)).heap[tb]?=w.heap[tb]? := by
  rw [aD e0 0,h,Array.setIfInBounds_setIfInBounds]
  congr 2
  apply Array.ext_getElem?;intro i;rw [Array.getElem?_setIfInBounds];split
  ·rename_i hi;subst hi;split
   ·exact h0.symm
   ·rw [Array.getElem?_eq_none (by omega)]
  ·rfl
 refine⟨e1,⟨hg.os,hg.tape,hg.output,by have:=hg.size;simpa [World.setCell] using this,fun i hi hn=>?_⟩⟩;by_cases e:i=tb
 ·subst e;exact e1
 ·rw [Below.heap_setCell _ _ _ _ (fun x=>e (by simpa using x)),hg.block i (by simpa [World.setCell] using hi) hn,Below.heap_setCell _ _ _ _ (fun x=>e (by simpa using x))]
theorem jE(w:World)(tb mb:Nat)(ns:List (List UInt8))(s:List UInt8)(h:Tab w tb mb ns)(hs:s.length<=1000000)(hn:ns.length<=1000000000000000000) :Calls prog 123 #[.pointer (some ⟨tb,0,none⟩),.string ⟨s.toArray⟩] w fun e w'=>e=.returned (.int .i64 (ns.idxOf s:Nat))/\Tab w' tb mb (b9 ns s)/\w.grownBy w' (some mb):=by
 have HT:Hid (Tab w tb mb ns):=h;have hne:=h.ne;obtain⟨hb,D,hown,hD⟩:=h;have c0:w.cell? ⟨tb,0,none⟩=some (.int .i32 0):=aA hb 0;have f0:w.frozen? ⟨tb,0,none⟩=false:=aF hb 0;have c2:w.cell? ⟨tb,0+2,none⟩=some (.map (some mb)):=aA hb 2;have hkey:keyOf prog 9 (.string ⟨s.toArray⟩)=some (.string s):=WideMaps.keyOf_string_mk underlying9 (by unfold maxLen;show s.toArray.size<=_;simp;omega);have hown1:=hown.setCell (a:=⟨tb,0,none⟩) hne (.int .i32 1);have HB:Hid (w.heap[tb]?=some (.cells #[.int .i32 0,.int .u32 0,.map (some mb)] TTab (0,0))):=hb;have HD:Hid (TabD D ns):=hD;by_cases hm:s∈ns
 ·obtain⟨hh,hat0⟩:=hD.yes _ _ (show ns[ns.idxOf s]?=some s by rw [List.getElem?_eq_getElem (List.idxOf_lt_length_of_mem hm),List.getElem_idxOf]);have HI:Hid (b9 ns s=ns):=show b9 ns s=ns from by unfold b9;rw [if_pos hm]
  have HA:Hid (∀z,D.atKey (.string s) z=.lit (.int .i64 (ns.idxOf s:Nat))):=hat0;clear hb hD hm hat0
  go_enter_defers func123,ntmps123
  go_wp2_with (first
   | (go_at_call 166;refine(lock_free zR ⟨tb,0,none⟩ _ c0 f0).mono ?_;rintro e w' ⟨rfl,rfl⟩)
   | (at_lookup;refine wpList_lookup_own_ok_int _ rfl _ _ 121 rfl 9 3 .i64 lawS underlying121 underlying3 (zeroI _) mb ns.length D rfl hown1 _ _ rfl hkey ?_;intro c hat hwc))
  refine leaves_cons (f:=167) (args:=#[.pointer (some ⟨tb,0,none⟩)]) (by simp) (by simp [go_sem]) ?_;refine(unlock_deferred zR ⟨tb,0,none⟩ .returning _ (World.cell?_setCell_same w ⟨tb,0,none⟩ (.int .i32 1) c0) (by simp [f0])).mono ?_;rintro e u' w'' ⟨rfl,rfl,rfl⟩;have hc:c=(ns.idxOf s:Nat):=by rw [HA.out] at hat;simpa using hat.symm
  obtain⟨e1,e2⟩:=nT HB.out rfl (.int .i32 1) (w1:=w.setCell ⟨tb,0,none⟩ (.int .i32 1)) (mb:=mb) ⟨rfl,rfl,rfl,Nat.le_refl _,fun _ _ _=>rfl⟩ hne;refine⟨_,results_tmp rfl _ _ _,by rw [hc];rfl,?_,e2⟩;rw [HI.out];exact HT.out.keep e1 (by rw [Below.heap_setCell _ _ _ _ hne,Below.heap_setCell _ _ _ _ hne])
 ·have hh:=hD.no s hm;have HI:Hid (b9 ns s=ns++[s]):=show b9 ns s=_ from by unfold b9;rw [if_neg hm]
  have HX:Hid ((ns.idxOf s:Nat)=ns.length):=List.idxOf_eq_length hm;have HM:Hid (s∉ns):=hm;have hsz:=hD.size;have hwl:(Lit.int .i64 ((ns.length:Nat):Int)).wf=true:=WalkArith.wf_i64 (by omega);clear hb hD hm
  go_enter_defers func123,ntmps123
  go_wp2_with (first
   | (go_at_call 166;refine(lock_free zR ⟨tb,0,none⟩ _ c0 f0).mono ?_;rintro e w' ⟨rfl,rfl⟩)
   | (at_lookup;refine wpList_lookup_own_ok_int _ rfl _ _ 121 rfl 9 3 .i64 lawS underlying121 underlying3 (zeroI _) mb ns.length D rfl hown1 _ _ rfl hkey ?_;intro c hat hwc)
   | (at_len;refine wpList_len_own _ rfl _ 121 rfl 9 3 underlying121 _ mb ns.length D rfl hown1 ?_;rw [hsz])
   | (at_mapUpdate;refine wpList_mapUpdate_own _ rfl _ _ _ 121 rfl 9 3 lawS underlying121 _ mb ns.length D rfl hown1 (by unfold maxLen;omega) _ _ _ rfl rfl hkey _ [] (plainElem_int underlying3 hwl) ?_;intro w1 hown2 hgrow))
  have hk:w1.cell? ⟨tb,0,none⟩=some (.int .i32 1):=by have e0:=hgrow.block tb (by simpa [World.setCell] using aB HB.out) (fun e=>hne (Option.some.inj e).symm);rw [aD HB.out 0] at e0;exact aA e0 0
  have hf:w1.frozen? ⟨tb,0,none⟩=false:=by have e0:=hgrow.block tb (by simpa [World.setCell] using aB HB.out) (fun e=>hne (Option.some.inj e).symm);rw [aD HB.out 0] at e0;exact aF e0 0
  refine leaves_cons (f:=167) (args:=#[.pointer (some ⟨tb,0,none⟩)]) (by simp) (by simp [go_sem]) ?_;refine(unlock_deferred zR ⟨tb,0,none⟩ .returning _ hk hf).mono ?_;rintro e u' w'' ⟨rfl,rfl,rfl⟩;obtain⟨e1,e2⟩:=nT HB.out rfl (.int .i32 1) hgrow hne;refine⟨_,results_tmp rfl _ _ _,by rw [HX.out];rfl,?_,e2⟩;rw [HI.out];obtain⟨es,cl,hb2,hr⟩:=hown2;refine⟨e1.trans HB.out,_,⟨es,cl,?_,by simpa using hr⟩,HD.out.push HM.out⟩;rw [Below.heap_setCell _ _ _ _ hne];exact hb2
end
open Pl (isDig)
section
open Go.RowKit
def WordPost(w:World)(b:Nat)(L:Value)(at_ dp:Int)(g:Bool)(s:List UInt8)(e:Ending)(w':World):Prop :=
 ∃v g',e=.returned v/\w.grownBy w' (some b)/\Rd w' b L at_ dp g' /\
  ((Pl.isNum s=true/\g'=(g||Pl.great s)/\RepR (fun k=>w.heap.size<=k) 1 w' v (.lit (.int .i64 (Pl.sval s)))) \/
   (Pl.isNum s=false/\Pl.noDig s=true/\g'=g/\RepR (fun k=>w.heap.size<=k) 1 w' v (.lit (.string s))) \/
   (Pl.isNum s=false/\Pl.noDig s=false/\v=.pointer none))
theorem pW{w wr:World}{b:Nat}{L:Value}{at_ dp:Int}{g:Bool}{s:List UInt8}{x:Int}(hg:w.grownBy wr (some b))(hR:Rd wr b L at_ dp (g||(Pl.foldN (Pl.digs s)).2))(hn:Pl.isNum s=true)
  (hx:x=if Pl.minus s then -((Pl.foldN (Pl.digs s)).1:Int) else((Pl.foldN (Pl.digs s)).1:Int)) :
  WordPost w b L at_ dp g s (.returned (.pointer (some ⟨wr.heap.size,0,none⟩))) (wr.alloc (.cells #[kNum,.int .i64 x,tI,.slice none 0 0] TD)):=by
 refine⟨_,_,rfl,aC hg (World.grownBy_alloc _ _ _),hR.alloc _,.inl ⟨hn,by rw [Pl.foldN_great];rfl,⟨wr.heap.size,rfl,hg.size,x,heap_alloc_new _ _,?_⟩⟩⟩;intro hb;rw [hx];unfold gW Pl.sval at hb;unfold Pl.sval;by_cases hm:Pl.minus s=true
 ·rw [if_pos hm] at hb;rw [if_pos hm,if_pos hm,Pl.foldN_val _ (by omega)]
 ·rw [if_neg hm] at hb;rw [if_neg hm,if_neg hm,Pl.foldN_val _ (by omega)]
theorem qG(b:Nat)(s:ByteArray)(w:World)(L:Value)(at_ dp:Int)(g:Bool)(hR:Rd w b L at_ dp g)(hs:s.size<=1000) :Calls prog 71 #[.pointer (some ⟨b,0,none⟩),.string s] w fun e w'=>WordPost w b L at_ dp g s.data.toList e w':=by
 have HR:Hid (Rd w b L at_ dp g):=hR;clear hR;go_enter func71,ntmps71;go_wp2_with fail;refine(rX s _ hs).mono ?_;rintro e w' ⟨hp,rfl⟩;rcases hp with⟨hn,d,hd,hdz,rfl⟩ | ⟨hn,d,b0,rfl⟩
 ·have HN:Hid (Pl.isNum s.data.toList=true):=hn;have HD:Hid (d.data.toList=Pl.digs s.data.toList):=hd;have HG:Hid (∀j (h:j<d.data.toList.length),isDig d.data.toList[j]=true):=fun j h=>Pl.all_get _ (by have:=hn;unfold Pl.isNum at this;rw [<- hd] at this;exact this) j h;clear hn hd;go_wp2_with fail
  go_loopw [10,11] (fun nn i wr=>∃k:Nat,k<=d.size/\i=.int .i64 k/\nn=.int .i64 ((Pl.foldN (d.data.toList.take k)).1:Int)/\Hid (w.grownBy wr (some b))/\Hid (Rd wr b L at_ dp (g||(Pl.foldN (d.data.toList.take k)).2)))
   (fun _ i _=>d.size-(intOf i).toNat)
  case atStart=>exact⟨0,Nat.zero_le _,rfl,rfl,World.grownBy.refl _ _,show Rd w b L at_ dp _ from by have:=HR.out;simpa [Pl.foldN] using this⟩
  case round =>
   obtain⟨k,hk,rfl,rfl,HW,HRk⟩:=hrel;have hle:=Pl.foldN_le (d.data.toList.take k);by_cases hlt:k<d.size
   ·have hkl:k<d.data.toList.length:=by simpa using hlt
    have hg0:=bE d k hlt;have hdg:=Pl.isDig_le _ (HG.out k hkl);have hst:=Pl.foldN_snoc (d.data.toList.take k) (d.data.toList[k]);rw [<- Pl.take_snoc _ _ hkl,hg0] at hst;rw [hg0] at hdg;unfold Pl.stepN Pl.big at hst;unfold Pl.big at hle;have HS:Hid (_=_):=hst;generalize (Pl.foldN (d.data.toList.take k)).1=n0 at *;have c3:=HRk.out.cells.2.2.2;have f3:=aF HRk.out 3;clear hst hg0 hkl;go_wp2_with fail
    ·refine⟨⟨k+1,by omega,by go_num,?_,aC HW.out (aE _ _ _ _),?_⟩,by simp [intOf];omega⟩
     ·rw [HS.out,if_pos (by omega)];rfl
     ·show Rd _ _ _ _ _ _;rw [HS.out,if_pos (by omega),Bool.or_true];exact HRk.out.set3 true
    ·refine⟨⟨k+1,by omega,by go_num,?_,HW.out,?_⟩,by simp [intOf];omega⟩
     ·rw [HS.out,if_neg (by omega)];show Value.int _ _=Value.int _ _
      congr 1
      dsimp only;omega
     ·show Rd _ _ _ _ _ _;rw [HS.out,if_neg (by omega)];exact HRk.out
   ·have ht:d.data.toList.take k=Pl.digs s.data.toList:=by rw [List.take_of_length_le (by simp;omega)];exact HD.out
    rw [ht] at hle;rw [ht];have HRk2:Hid (Rd wr b L at_ dp (g||(Pl.foldN (Pl.digs s.data.toList)).2)):=by rw [<- ht];exact HRk.out
    clear ht HRk HD HG;unfold Pl.big at hle;generalize hX:(Pl.foldN (Pl.digs s.data.toList)).1=X at *;have HX:Hid (_=X):=hX;clear hX;go_wp2_with fail
    ·go_ret;exact pW HW.out HRk2.out HN.out (by rw [if_pos ‹_›,HX.out])
    ·go_ret;exact pW HW.out HRk2.out HN.out (by rw [if_neg (by simp [*]),HX.out])
 ·have HN:Hid (Pl.isNum s.data.toList=false):=hn;clear hn;go_wp2_with fail
  go_loopw [8] (fun i wq=>∃k:Nat,k<=s.size/\i=.int .i64 k/\w=wq/\Hid (∀j (h:j<s.data.toList.length),j<k->(!isDig s.data.toList[j])=true)) (fun i _=>s.size-(intOf i).toNat)
  case atStart=>exact⟨0,Nat.zero_le _,rfl,rfl,fun j _ hj=>by omega⟩
  case round =>
   obtain⟨k,hk,rfl,rfl,HA⟩:=hrel;by_cases hlt:k<s.size
   ·have hg0:=bE s k hlt;by_cases hdg:isDig (s[k]'hlt)=true
    ·have HF:Hid (Pl.noDig s.data.toList=false):=Pl.not_all _ k (by simpa using hlt) (by rw [hg0,hdg];rfl);clear hg0 HA;go_wp2_with (go_at_call 119;refine(bI (s[k]'hlt) _).mono ?_;rintro e w' ⟨rfl,rfl⟩);go_ret;exact⟨_,g,rfl,World.grownBy.refl _ _,HR.out,.inr (.inr ⟨HN.out,HF.out,rfl⟩)⟩
    ·have hdg0:isDig (s[k]'hlt)=false:=by simpa using hdg
     have HA2:Hid (∀j (h:j<s.data.toList.length),j<k+1->(!isDig s.data.toList[j])=true):=by
      intro j h hj;by_cases e:j=k
      ·subst e;rw [hg0,hdg0];rfl
      ·exact HA.out j h (by omega)
     clear hg0 HA hdg;go_wp2_with (go_at_call 119;refine(bI (s[k]'hlt) _).mono ?_;rintro e w' ⟨rfl,rfl⟩);exact⟨⟨k+1,by omega,by go_num,trivial,HA2⟩,by simp [intOf];omega⟩
   ·have HF:Hid (Pl.noDig s.data.toList=true):=Pl.all_of _ fun j h=>HA.out j h (by simp at h;omega);clear HA;go_wp2_with fail;go_ret;refine⟨_,g,rfl,World.grownBy_alloc _ _ _,HR.out.alloc _,.inr (.inl ⟨HN.out,HF.out,rfl,?_⟩)⟩;refine⟨w.heap.size,rfl,Nat.le_refl _,(heap_alloc_new _ _).trans ?_⟩;unfold eB;simp [kNam,TD]
end
end Go.Proofs.YtkgbdddkcjpgfaaGreatDoor
