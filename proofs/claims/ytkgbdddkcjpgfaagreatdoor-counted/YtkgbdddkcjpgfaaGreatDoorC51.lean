import Derived.Laws.AppendOwnNone
import Derived.Test.YtkgbdddkcjpgfaaGreatDoorC42
import Derived.Test.YtkgbdddkcjpgfaaGreatDoorC31
namespace Go.Proofs.YtkgbdddkcjpgfaaGreatDoor
open Pl (PO newW)
section
open Go.RowKit Go.Lib Go.Maps
variable {w:World}
def ScrV(w:World)(v:Value)(ins:List (ByteArray×Int)):Prop:=(v=.slice none 0 0/\ins=[])\/∃ad cap,v=.slice (some ad) ins.length cap/\ins.length<=cap/\(ins≠[]->ad.block<w.heap.size)/\∀j u,(ins.flatMap iL)[j]?=some u->w.cell? (ad.add j)=some u
theorem scrV_in{v:Value}{ins:List (ByteArray×Int)}(h:ScrV w v ins):ScrIn w v ins:=by
 rcases h with⟨rfl,rfl⟩ | ⟨ad,cap,rfl,hl,hb,hc⟩
 ·exact⟨none,0,rfl,Nat.le_refl _,fun k i hi=>by cases hi⟩
 ·refine⟨some ad,cap,rfl,hl,fun k i hi=>?_⟩;obtain⟨q1,q2⟩:=pM hi;have h1:=hc _ _ q1;have h2:=hc _ _ q2;have hpos:0<ins.length:=by have:=(List.getElem?_eq_some_iff.1 hi).1;omega
  obtain⟨q0,_⟩:=pM (List.getElem?_eq_getElem hpos);have h0:=hc _ _ q0;obtain⟨b,off,spot⟩:=ad;obtain rfl:spot=none:=by simpa [Addr.add] using World.cell?_spot h0
  rw [Addr.add_mid] at h1 h2;exact⟨b,off,rfl,hb (fun e=>by rw [e] at hi;cases hi),h1,by rw [Nat.add_assoc];exact h2⟩
theorem fG(ins:List (ByteArray×Int)):(ins.flatMap iL).length=ins.length*2:=by
 induction ins with
 | nil=>rfl
 | cons a r ih=>simp only [List.flatMap_cons,List.length_append,ih,List.length_cons,iL,List.length_nil];omega
theorem aG(ins:List (ByteArray×Int)):∀u∈ins.flatMap iL,u.oneCell'=true:=fun u hu=>by obtain⟨i,_,hi⟩:=List.mem_flatMap.1 hu;simp only [iL,List.mem_cons,List.not_mem_nil,or_false] at hi;rcases hi with rfl | rfl<;>rfl
theorem encI_snoc(ins:List (ByteArray×Int))(b:ByteArray)(f:Int):(ins++[(b,f)]).flatMap iL=ins.flatMap iL++[.string b,.int .i64 f]:=by simp [iL]
theorem newsI{g:Nat}{a b:Value}{T:TypeId}(h:w.heap[g]?=some (.cells #[a,b] T (0,0))):∀j u,[a,b][j]?=some u->w.cell? (Addr.add ⟨g,0,none⟩ j)=some u:=fun j u hj=>by
 have e:(Addr.add ⟨g,0,none⟩ j:Addr)=⟨g,j,none⟩:=by rw [Addr.add_lit,Nat.zero_add]
 rw [e,aA h j];simpa using hj
def mrO(ins:List (ByteArray×Int))(b:ByteArray)(f:Nat):List PO:=(Pl.session newW ((ins++[(b,(f:Int))]).map inP)).2
def hU(ins:List (ByteArray×Int))(b:ByteArray)(f:Nat):PO:=(Pl.answer (Pl.session newW (ins.map inP)).1 (b.data.toList,(f:Int))).2
theorem mrO_eq(ins:List (ByteArray×Int))(b:ByteArray)(f:Nat):mrO ins b f=(Pl.session newW (ins.map inP)).2++[hU ins b f]:=by unfold mrO hU;rw [List.map_append,List.map_cons,List.map_nil,Pl.session_snoc];rfl
theorem mrO_len(ins:List (ByteArray×Int))(b:ByteArray)(f:Nat):(mrO ins b f).length=ins.length+1:=by rw [mrO_eq,List.length_append,Pl.session_len,List.length_map];rfl
theorem mrO_at(ins:List (ByteArray×Int))(b:ByteArray)(f:Nat):(mrO ins b f)[ins.length]?=some (hU ins b f):=by
 have hl:(Pl.session newW (ins.map inP)).2.length=ins.length:=by rw [Pl.session_len,List.length_map]
 rw [mrO_eq,List.getElem?_append_right (by omega),hl,Nat.sub_self];rfl
def CellsAt(w:World)(g n:Nat)(o:PO):Prop:=w.cell? ⟨g,n*3,none⟩=some (.int .i64 (o.code:Int))/\w.cell? ⟨g,n*3+1,none⟩=some (.string ⟨o.out.toArray⟩)/\w.cell? ⟨g,n*3+2,none⟩=some (.string ⟨o.val.toArray⟩)
def RowAt(w:World)(r:Value)(n:Nat)(o:PO):Prop:=∃g cap,r=.slice (some ⟨g,0,none⟩) (n+1) cap/\n+1<=cap/\CellsAt w g n o
theorem row_at{r:Value}{ins:List (ByteArray×Int)}{b:ByteArray}{f:Nat}(h:OutAt w r (mrO ins b f)):RowAt w r ins.length (hU ins b f):=by obtain⟨ao,cap,rfl,hc,hk⟩:=h;obtain⟨g,rfl,_,a0,a1,a2⟩:=hk ins.length _ (mrO_at ins b f);rw [mrO_len] at hc ⊢;exact⟨g,cap,rfl,hc,a0,a1,a2⟩
theorem hY(a:Addr)(j:Nat):(a.add j).block=a.block:=by unfold Addr.add;first | rfl | (split<;>rfl)
theorem f5{w1 w2:World}{base n:Nat}{v1:Value}{xs:List Value}(h:w2.ownsRow base TInp 2 v1 (0+n) ([]++xs))(hg:w1.grownBy w2 (Value.slice none 0 0).ownBlock)(hB:Below w.heap.size w w1):w2.ownsRow base TInp 2 v1 n xs/\Hid (Below w.heap.size w w2)/\Below w1.heap.size w1 w2/\∃ao cap,v1=.slice ao n cap:=by rw [Nat.zero_add,List.nil_append] at h;obtain⟨ao,cap,e,_⟩:=cJ h;exact⟨h,hB.trans ((cS hg).mono hB.size),cS hg,ao,cap,e⟩
theorem b7{w2 w3:World}{base n:Nat}{v1 v2:Value}{xs:List Value}{a c:Value}{o:Obj}(hB:Below w.heap.size w w2)(hb:w.heap.size<=base)(h1:w2.ownsRow base TInp 2 v1 n xs)(h:w3.ownsRow base TInp 2 v2 (n+1) (xs++[a,c]))(hg:(w2.alloc o).grownBy w3 v1.ownBlock):Hid (Below w.heap.size w w3)/\∃ao cap,v2=.slice ao (n+1) cap:=by obtain⟨ao,cap,e,_⟩:=cJ h;have hs:=hB.size;exact⟨(hB.alloc hs o).grown hg (by simp;omega) (fun j hj=>by have:=(h1.lt j hj).1;omega),ao,cap,e⟩
end
end Go.Proofs.YtkgbdddkcjpgfaaGreatDoor
