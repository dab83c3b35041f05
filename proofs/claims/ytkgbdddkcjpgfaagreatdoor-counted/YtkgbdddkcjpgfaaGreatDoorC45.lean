import Derived.Test.YtkgbdddkcjpgfaaGreatDoorC44
namespace Go.Proofs.YtkgbdddkcjpgfaaGreatDoor
set_option maxHeartbeats 2000000
set_option maxRecDepth 100000
open Go.Proofs.Tryz
open Pl (Byt)
section
open Go.RowKit Go.Lib
variable {w:World} {b:Nat}
theorem FlPost.pre{w1 w':World}{l t:Byt}{m:Nat}{e:Ending}(k:Txs b w w1)(h:FlPost w1 b l t m e w'):FlPost w b l t m e w':=⟨h.1,k.trans h.2.1,h.2.2⟩
theorem TxtAt.txs_below{w1:World}{l:Byt}(h:TxtAt w b l)(hB:Below w.heap.size w w1):Txs b w w1/\TxtAt w1 b l:=⟨Txs.of_below hB (Nat.le_of_lt h.lt),h.later hB⟩
theorem aC9(w:World)(b:Nat)(T:TypeId)(us:List Value)(hb:b<w.heap.size)(hT:T≠TBy):RowSp b (w.alloc (.cells us.toArray T)) (.slice (some ⟨w.heap.size,0,none⟩) us.length us.length) 1 us.length us :=⟨by simp,some ⟨w.heap.size,0,none⟩,us.length,rfl,Nat.le_refl _,.inr ⟨w.heap.size,0,us.toArray,T,rfl,by omega,hT,heap_alloc_new w _,fun i u h=>by simpa using h⟩⟩
theorem aBC{w2:World}{l:Byt}{T:TypeId}(us:List Value)(ts:List Byt)(ms:Nat->Nat)(ht:TxtAt w b l)(hT:T≠TBy)(hB:Below w.heap.size w w2)(hlen:ts.length=us.length)(hsp:∀(i:Nat)(u:Value)(t:Byt),us[i]?=some u->ts[i]?=some t->Spl b w u t (ms i))(hb:l.length+2+n3 ms us.length<=1000000000) :Calls prog 338 #[.pointer (some ⟨b,0,none⟩),.slice (some ⟨w2.heap.size,0,none⟩) us.length us.length] (w2.alloc (.cells us.toArray T)) fun e w'=>FlPost w b l (Pl.listT ts) (2+n3 ms us.length) e w':=by have hb2:Below w.heap.size w (w2.alloc (.cells us.toArray T)):=hB.alloc hB.size _;obtain⟨k1,k2⟩:=ht.txs_below hb2;have hlt:b<w2.heap.size:=Nat.lt_of_lt_of_le ht.lt hB.size;exact(aB1 _ b l _ us ts ms k2 (aC9 w2 b T us hlt hT) hlen (fun i u t h1 h2=>(hsp i u t h1 h2).later k1) hb).mono (fun e w' h=>h.pre k1)
theorem aBU{w2:World}{l:Byt}{T:TypeId}(us:List Value)(ts:List Byt)(ms:Nat->Nat)(ht:TxtAt w b l)(hT:T≠TBy)(hB:Below w.heap.size w w2)(hlen:ts.length=us.length)(hsp:∀(i:Nat)(u:Value)(t:Byt),us[i]?=some u->ts[i]?=some t->Spl b w u t (ms i))(hb:l.length+2+n3 ms us.length<=1000000000) :Calls prog 342 #[.pointer (some ⟨b,0,none⟩),.slice (some ⟨w2.heap.size,0,none⟩) us.length us.length] (w2.alloc (.cells us.toArray T)) fun e w'=>FlPost w b l (Pl.listT ts) (2+n3 ms us.length) e w':=by have hb2:Below w.heap.size w (w2.alloc (.cells us.toArray T)):=hB.alloc hB.size _;obtain⟨k1,k2⟩:=ht.txs_below hb2;have hlt:b<w2.heap.size:=Nat.lt_of_lt_of_le ht.lt hB.size;exact(p_listS _ b l _ us ts ms k2 (aC9 w2 b T us hlt hT) hlen (fun i u t h1 h2=>(hsp i u t h1 h2).later k1) hb).mono (fun e w' h=>h.pre k1)
def kwV(s:Byt):Value:=.iface 214 (.agg #[.string ⟨s.toArray⟩,.int .i64 0])
def m4(a b c d:Nat):Nat->Nat
 | 0=>a
 | 1=>b
 | 2=>c
 | _=>d
theorem p_spIf(w:World)(b:Nat)(l:Byt)(x y z:Value)(tx ty tz:Byt)(mx my mz:Nat)(ht:TxtAt w b l)(hx:Spl b w x tx mx)(hy:Spl b w y ty my)(hz:Spl b w z tz mz)(hi:(∃T v,x=.iface T v)/\(∃T v,y=.iface T v)/\∃T v,z=.iface T v)(hb:l.length+(mx+my+mz+500)<=1000000000) :Calls prog 378 #[.agg #[x,y,z],.pointer (some ⟨b,0,none⟩)] w fun e w'=>FlPost w b l (Pl.listT [Pl.ifB,tx,ty,tz]) (mx+my+mz+500) e w':=by
 have HK:Hid (∀(w1:World)(s:ByteArray),Below w.heap.size w w1->Calls prog 339 #[.string s] w1 fun e w'=>e=.returned (.agg #[.string s,.int .i64 0])/\Hid (Below w.heap.size w w')/\Hid (Below w1.heap.size w1 w')):=fun w1 s hB=>(aA3 w1 s).mono (fun e w' ⟨k1,k2⟩=>⟨k1,hB.trans (k2.mono hB.size),k2⟩)
 have HL:Hid (∀w2,Below w.heap.size w w2->Calls prog 338 #[.pointer (some ⟨b,0,none⟩),.slice (some ⟨w2.heap.size,0,none⟩) 4 4] (w2.alloc (.cells #[.iface 214 (.agg #[.string ⟨#[105,102]⟩,.int .i64 0]),x,y,z] 61)) fun e w'=>FlPost w b l (Pl.listT [Pl.ifB,tx,ty,tz]) (mx+my+mz+500) e w'):=fun w2 hB=>(aBC (T:=61) [kwV Pl.ifB,x,y,z] [Pl.ifB,tx,ty,tz] (m4 300 mx my mz) ht (by decide) hB rfl (fun i u t h1 h2=>by
   rcases i with _ | _ | _ | _ | i
   ·obtain rfl:=Option.some.inj h1;obtain rfl:=Option.some.inj h2;exact aA0 b w Pl.ifB 0 (by decide)
   ·obtain rfl:=Option.some.inj h1;obtain rfl:=Option.some.inj h2;exact hx
   ·obtain rfl:=Option.some.inj h1;obtain rfl:=Option.some.inj h2;exact hy
   ·obtain rfl:=Option.some.inj h1;obtain rfl:=Option.some.inj h2;exact hz
   ·simp at h1) (by simp only [List.length_cons,List.length_nil,n3,m4];omega)).mono (fun e w' h=>⟨h.1,h.2.1,by obtain⟨l',q1,q2,q3⟩:=h.2.2;exact⟨l',q1,q2,by simp only [List.length_cons,List.length_nil,n3,m4] at q3;omega⟩⟩)
 obtain⟨⟨Tx,vx,rfl⟩,⟨Ty,vy,rfl⟩,Tz,vz,rfl⟩:=hi;have hB0:∀o:Obj,Below w.heap.size w (w.alloc o):=fun o=>(Below.refl _ _).alloc (Nat.le_refl _) o;clear ht hx hy hz hb;go_enter func378,ntmps378;go_wp2_with fail
 go_region_with (first
  | (go_at_call 339;refine(HK.out _ _ (by first | exact(hB0 _).drew | exact hB0 _)).mono ?_;rintro e w1 ⟨rfl,HB1,HBk⟩;have hbox:=(HBk.out.block w.heap.size (by simp)).trans (by first | exact heap_alloc_new w _ | rfl);have d0:=aA hbox 0;have d1:=aA hbox 1;have d2:=aA hbox 2)
  | (go_at_call 338;refine(HL.out _ HB1.out).mono ?_;rintro e w2 ⟨rfl,h1,h2⟩))
 all_goals
  go_wp2_with fail
  go_end0
  exact⟨rfl,h1,h2⟩
end
end Go.Proofs.YtkgbdddkcjpgfaaGreatDoor
