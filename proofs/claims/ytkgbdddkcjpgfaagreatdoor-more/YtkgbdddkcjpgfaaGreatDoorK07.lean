import Derived.Test.YtkgbdddkcjpgfaaGreatDoorK06
namespace Go.Proofs.YtkgbdddkcjpgfaaGreatDoor
set_option maxHeartbeats 2000000
set_option maxRecDepth 100000
open Go.Proofs.Tryz
open Pl (inW)
section
open Go.RowKit
variable {bs:List UInt8} {pre:List (List UInt8)} {k:Nat}
def bF(bs:List UInt8):Option (List (List UInt8)) :=
 match Pl.toks bs with
 | none=>none
 | some l=>if l.all Pl.goodTok=true then some l else none
theorem eI(h:Pl.toks bs=none):bF bs=none:=by unfold bF;rw [h]
theorem pA{t:List UInt8}{x:Option (List (List UInt8))}(h:Pl.From bs pre k)(hx:Pl.toks (bs.drop k)=x.map (t::·))(hb:Pl.goodTok t=false):bF bs=none:=by
 unfold bF;unfold Pl.From at h;rw [hx] at h
 cases x with
 | none=>simp at h;rw [h]
 | some y =>simp at h;rw [h];dsimp only;rw [if_neg (by simp [hb])]
theorem nP(h:Pl.From bs pre k)(hk:bs.length<=k)(hg:pre.all Pl.goodTok=true):bF bs=some pre:=by unfold bF;rw [h.end_ hk];dsimp only;rw [if_pos hg]
theorem jZ(p:UInt8->Bool)(l:List UInt8):l.dropWhile p=l.drop (l.takeWhile p).length:=by
 induction l with
 | nil=>rfl
 | cons c r ih =>
  by_cases h:p c=true
  ·simp [h,ih]
  ·simp [h]
theorem wY{c:UInt8}{r:List UInt8}(h:Pl.From bs pre k)(hd:bs.drop k=c::r)(hb:Pl.blank c=false) :(∀t,pY (c::r)=some t->Pl.From bs (pre++[t]) (k+t.length)/\Pl.goodTok t=true/\0<t.length/\k+t.length<=bs.length)/\(pY (c::r)=none->bF bs=none):=by
 have hdl:∀m,bs.drop (k+m)=(c::r).drop m:=fun m=>by rw [<- hd,List.drop_drop]
 have hlen:bs.length=k+(r.length+1):=by have:=congrArg List.length hd;simp at this;omega
 have hp:∀x:UInt8,(x=40\/x=41\/x=39)->c=x->pY (c::r)=some [x]->(∀t,pY (c::r)=some t->Pl.From bs (pre++[t]) (k+t.length)/\Pl.goodTok t=true/\0<t.length/\k+t.length<=bs.length)/\(pY (c::r)=none->bF bs=none):=by
  intro x hx hc ht;subst hc;refine⟨fun t ht2=>?_,fun hn=>by rw [ht] at hn;cases hn⟩;rw [ht] at ht2;obtain rfl:=Option.some.inj ht2;have hi:inW c=false:=by rcases hx with rfl | rfl | rfl<;>decide
  have hpu:Pl.punct c=true:=by rcases hx with rfl | rfl | rfl<;>decide
  refine⟨h.more ?_,by simp [Pl.goodTok,hi],by simp,by simp;omega⟩;rw [hd,Pl.toks_punct c r hi hpu];have:=hdl 1;simp only [List.length_singleton,this];rfl
 by_cases h40:c=40
 ·exact hp 40 (.inl rfl) h40 (by subst h40;rfl)
 by_cases h41:c=41
 ·exact hp 41 (.inr (.inl rfl)) h41 (by subst h41;rfl)
 by_cases h39:c=39
 ·exact hp 39 (.inr (.inr rfl)) h39 (by subst h39;rfl)
 by_cases h35:c=35
 ·subst h35;have e:pY (35::r)=cF r:=rfl;rw [e]
  cases r with
  | nil=>exact⟨fun t ht=>by simp [cF] at ht,fun _=>eI (h.none_ (by rw [hd];exact Pl.toks_hash0))⟩
  | cons d q =>
   by_cases hdd:(d==116||d==102)=true
   ·have e2:cF (d::q)=some [35,d]:=by unfold cF;simp only;rw [if_pos hdd]
    rw [e2];refine⟨fun t ht=>?_,fun hn=>by cases hn⟩;obtain rfl:=Option.some.inj ht;refine⟨h.more ?_,by simp [Pl.goodTok,show inW 35=false from by decide],by simp,by simp at hlen ⊢;omega⟩;rw [hd,Pl.toks_hash d q hdd];have:=hdl 2;simp only [List.length_cons,List.length_nil,Nat.zero_add,Nat.reduceAdd,this];rfl
   ·have hdd0:(d==116||d==102)=false:=by simpa only [Bool.not_eq_true] using hdd
    have e2:cF (d::q)=none:=by unfold cF;simp only;rw [if_neg hdd]
    rw [e2];exact⟨fun t ht=>by(cases ht),fun _=>eI (h.none_ (by rw [hd];exact Pl.toks_hashno d q hdd0))⟩
 ·have e:pY (c::r)=bZ ((c::r).takeWhile inW):=by unfold pY;dsimp only;rw [if_neg h40,if_neg h41,if_neg h39,if_neg h35]
  rw [e];by_cases hw:inW c=true
  ·have ht:(c::r).takeWhile inW=c::r.takeWhile inW:=by rw [List.takeWhile_cons,if_pos hw]
   rw [ht];have htk:=Pl.toks_word c r hw;have hgt:Pl.goodTok (c::r.takeWhile inW)=gX (c::r.takeWhile inW):=by simp [Pl.goodTok,gX,hw]
   by_cases hg:gX (c::r.takeWhile inW)=true
   ·have e2:bZ (c::r.takeWhile inW)=some (c::r.takeWhile inW):=by unfold bZ;rw [if_pos hg]
    rw [e2];refine⟨fun t ht=>?_,fun hn=>by cases hn⟩;obtain rfl:=Option.some.inj ht;have hta:(r.takeWhile inW).length<=r.length:=(List.takeWhile_sublist inW).length_le;refine⟨h.more ?_,by rw [hgt];exact hg,by simp,by simp;omega⟩;rw [hd,htk,hdl];simp only [List.length_cons,List.drop_succ_cons];rw [jZ]
   ·have e2:bZ (c::r.takeWhile inW)=none:=by unfold bZ;rw [if_neg hg]
    rw [e2];exact⟨fun t ht=>by(cases ht),fun _=>pA h (by rw [hd];exact htk) (by rw [hgt];simpa only [Bool.not_eq_true] using hg)⟩
  ·have hw0:inW c=false:=by simpa only [Bool.not_eq_true] using hw
   have ht:(c::r).takeWhile inW=[]:=by rw [List.takeWhile_cons,if_neg hw]
   rw [ht];refine⟨fun t ht=>by simp [bZ,gX] at ht,fun _=>eI (h.none_ ?_)⟩;rw [hd];exact Pl.toks_bad c r hb (by simpa using h35) hw0 (by simp [Pl.punct,h40,h41,h39])
theorem Tryz.infoTok:(prog.info? 288).map (fun i=>(i.zero,i.size,i.bytes))=some (some (.agg #[.int .i64 0,.string ByteArray.empty]),2,24):=by kernel_rfl
def gO(l:List (List UInt8)):List Value:=l.flatMap fun t=>[.int .i64 (cE t),strV t]
theorem rO(l:List (List UInt8))(t:List UInt8):gO (l++[t])=gO l++[.int .i64 (cE t),strV t]:=by simp [gO]
def SplitPost(w:World)(bs:List UInt8)(e:Ending)(w':World):Prop :=Below w.heap.size w w'/\((bF bs=none/\∃v s,e=.returned (.tuple #[v,aY s 2]))\/∃l v,bF bs=some l/\e=.returned (.tuple #[v,.nilIface])/\w'.ownsRow w.heap.size 288 2 v l.length (gO l))
theorem oK(w:World)(a b:Obj):((w.alloc a).alloc b).heap.size=w.heap.size+1+1:=by simp
theorem rH(w:World)(x y:Value)(t:TypeId):∀j u,[x,y][j]?=some u->(w.alloc (.cells #[x,y] t)).cell? ((⟨w.heap.size,0,none⟩:Addr).add j)=some u :=World.news_of_block (cs:=#[x,y]) (t:=t) (fr:=(0,0)) (heap_alloc_new w _)
theorem strV_of{t:ByteArray}{l:List UInt8}(h:t.data.toList=l):Value.string t=strV l:=by subst h;unfold strV;simp
theorem p_split(s:ByteArray)(w:World)(hs:s.size<=1000):Calls prog 108 #[.string s] w fun e w'=>SplitPost w s.data.toList e w':=by
 obtain⟨i0,hi0,hz0,hz1,hz2⟩:=info_parts Tryz.infoTok;go_enter func108,ntmps108;go_wp2_with fail
 go_loopw [4,5] (fun v i wr=>∃(k:Nat) (pre:List (List UInt8)),k<=s.size/\pre.length<=k/\i=.int .i64 k/\Hid (Pl.From s.data.toList pre k)/\Hid (pre.all Pl.goodTok=true)/\Hid (wr.ownsRow w.heap.size 288 2 v pre.length (gO pre))/\Hid (Below w.heap.size w wr))
  (fun _ i _=>s.size-(intOf i).toNat)
 case atStart=>exact⟨0,[],Nat.zero_le _,Nat.zero_le _,rfl,Pl.From.start _,by simp [Hid],World.ownsRow_nil _ _ _ _,Below.refl _ _⟩
 case round =>
  obtain⟨k,pre,hk,hpk,rfl,HF,HG,HO,HB⟩:=hrel;by_cases hlt:k<s.size
  ·have hkl:k<s.data.toList.length:=by simpa using hlt
   have hd:=bE s k hlt;have hlt2:(k:Int)<(s.size:Int):=by omega
   by_cases hb:Pl.blank (s[k]'hlt)=true
   ·have HF2:Hid (Pl.From s.data.toList pre (k+1)):=HF.out.blank hkl (by rw [hd];exact hb);clear HF hkl hd;go_wp2_with (go_at_call 146;refine(nG (s[k]'hlt) _).mono ?_;rintro e w' ⟨rfl,rfl⟩);exact⟨⟨k+1,pre,by omega,by omega,by go_num,HF2,HG,HO,HB⟩,by simp [intOf];omega⟩
   ·have hb0:Pl.blank (s[k]'hlt)=false:=by simpa using hb
    have hdr:s.data.toList.drop k=(s[k]'hlt)::s.data.toList.drop (k+1):=by rw [Pl.drop_at _ _ hkl,hd]
    have hst:=wY HF.out hdr hb0;have HY:Hid (∀t,pY ((s[k]'hlt)::s.data.toList.drop (k+1))=some t->_):=hst.1;have HZ:Hid (pY ((s[k]'hlt)::s.data.toList.drop (k+1))=none->_):=hst.2;have HX:Hid ((s.extract k s.size).data.toList=(s[k]'hlt)::s.data.toList.drop (k+1)):=show _=_ from by rw [Lib.extract_to_end];exact hdr
    have hxz:(s.extract k s.size).size<=1000:=by simp;omega
    have hwr:=HB.out.size;clear HF hkl hd hdr hst hb;go_wp2_with (go_at_call 146;refine(nG (s[k]'hlt) _).mono ?_;rintro e w' ⟨rfl,rfl⟩);refine(nI _ _ hxz _ _ HX.out).mono ?_;rintro e w1 ⟨hB1,k1,t1,b1,rfl,hc⟩;have HB1:Hid (Below w.heap.size w w1):=HB.out.trans (hB1.mono hwr);have hw1:=HB1.out.size;have HO1:Hid (w1.ownsRow w.heap.size 288 2 u4 pre.length (gO pre)):=HO.out.kept (aQ none hB1) (by cases hv:Value.ownBlock u4<;>simp);clear hB1 HO;rcases hc with⟨hn,rfl⟩ | ⟨rfl,l,hl,htl,rfl⟩
    ·have HE:Hid (bF s.data.toList=none):=HZ.out hn;clear hn;go_wp2_with (go_at_call 78;refine(bJ _ _ _).mono ?_;rintro e w' ⟨rfl,rfl⟩);go_ret2;exact⟨HB1.out.alloc hw1 _,.inl ⟨HE.out,_,_,rfl⟩⟩
    ·obtain⟨hF2,hgt,hpos,hle⟩:=HY.out l hl;have HF2:Hid (Pl.From s.data.toList (pre++[l]) (k+l.length)):=hF2;have HG2:Hid ((pre++[l]).all Pl.goodTok=true):=show _=true from by rw [List.all_append,HG.out];simp [hgt]
     have htz:t1.size=l.length:=by rw [<- htl];simp
     have hle2:k+l.length<=s.size:=by simpa using hle
     have HTV:Hid (_=_):=strV_of htl;clear hF2 hgt hle hl htl HG HY HZ;have hct:∀(o:Obj)(x:Value),((w1.alloc (.cells #[x,.string t1] 288)).alloc o).cell? ⟨w1.heap.size,1,none⟩=some (.string t1):=fun o x=>aA ((Below.heap_alloc _ _ _ (by simp)).trans (heap_alloc_new w1 _)) 1;go_wp2_with (first | (at_builtin;refine wpList_append_lies _ rfl _ _ 205 rfl w.heap.size 288 i0 (.agg #[.int .i64 0,.string ByteArray.empty]) 2 24 underlying205 hi0 hz0 hz1 hz2 rfl (by decide) u4 pre.length (gO pre) rfl ((HO1.out.alloc _).alloc _) ⟨w1.heap.size+1,0,none⟩ 1 1 [.int .i64 (cE l),.string t1] rfl rfl (by have:=rH (w1.alloc (.cells #[.int .i64 (cE l),.string t1] 288)) (.int .i64 (cE l)) (.string t1) 288;simpa using this) (fun x hx=>by simp at hx;rcases hx with rfl | rfl<;>rfl) (by decide) (by unfold maxLen;omega) (by omega) (by simp;omega) (w1.heap.size+1+1) (by simp) ?_;intro g3 cap3 w3 hown3 hgrow3 hat3 _;have ct:=(hgrow3.cell_far ⟨w1.heap.size,1,none⟩ (by simp only [oK];omega) (fun e=>Nat.lt_irrefl _ (HO1.out.lt w1.heap.size e.symm).2)).trans (hct _ _)))
     go_roundw
     case rel =>
      refine⟨k+l.length,pre++[l],by omega,by simp;omega,by go_num,HF2,HG2,?_,?_⟩
      ·have h3:=hown3;rw [HTV.out] at h3;show w3.ownsRow _ _ _ _ _ _;rw [rO];simpa using h3
      ·exact((HB1.out.alloc hw1 _).alloc (by simp;omega) _).grown hgrow3 (by simp;omega) (fun j hj=>(HO1.out.lt j hj).1)
     case measure=>simp [intOf];omega
  ·have HE:Hid (bF s.data.toList=some pre):=nP HF.out (by simp;omega) HG.out;go_wp2_with fail;go_ret2;exact⟨HB.out,.inr ⟨pre,_,HE.out,rfl,HO.out⟩⟩
end
end Go.Proofs.YtkgbdddkcjpgfaaGreatDoor
