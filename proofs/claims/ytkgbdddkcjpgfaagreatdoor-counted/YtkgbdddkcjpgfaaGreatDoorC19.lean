import Derived.Test.YtkgbdddkcjpgfaaGreatDoorC18
import Derived.LaidEql
import Derived.Stop.Asserts
import Derived.RowKitTokens
namespace Go.Proofs.YtkgbdddkcjpgfaaGreatDoor
set_option maxHeartbeats 4000000
set_option maxRecDepth 100000
open Go.Proofs.Tryz
open Pl (PV FR Byt formOf tsz isForm fmF)
section
open Go.RowKit
theorem iQ(n:Nat)(t:Tr):(Pl.topOf n t).isSome=Pl.isTop n t:=by
 have hf:(fun x=>(formOf n x).isSome)=isForm n:=funext (Pl.formOf_some n);unfold Pl.topOf;split
 ·rename_i h r;show _=if h=Pl.defineW then Pl.asgOk (isForm n) r else isForm (n+1) _;split
  ·rw [Pl.asgF_some,hf]
  ·exact Pl.formOf_some _ _
 ·rename_i hno;rw [Pl.formOf_some];unfold Pl.isTop;split
  ·rename_i h r;exact absurd rfl (hno h r)
  ·rfl
theorem mK(n:Nat)(r:List Tr):Pl.topOf n (.agg (.lit (.string Pl.defineW)::r))=Pl.asgF .define (formOf n) r:=by simp [Pl.topOf]
theorem pG(r:List Tr):eG (.lit (.string Pl.defineW)::r)=[100,101,102,105,110,101]:=rfl
theorem rL{n:Nat}{ts:List Tr}(h:¬eG ts=[100,101,102,105,110,101]):Pl.topOf n (.agg ts)=formOf (n+1) (.agg ts):=by
 unfold Pl.topOf;split
 ·rename_i h' r heq;rw [DataW.agg.injEq] at heq;subst heq;rw [if_neg];rintro rfl;exact h (pG r)
 ·rfl
theorem rM{n:Nat}{t:Tr}(h:¬∃ts,t=.agg ts):Pl.topOf n t=formOf (n+1) t:=by
 unfold Pl.topOf;split
 ·exact absurd ⟨_,rfl⟩ h
 ·rfl
theorem kwOf_is{ts:List Tr}(h:eG ts=[100,101,102,105,110,101]):∃r,ts=.lit (.string Pl.defineW)::r:=by
 unfold eG at h
 cases hk:Pl.headKw ts with
 | none=>rw [hk] at h;simp at h
 | some k =>
  rw [hk] at h;dsimp only at h;subst h;unfold Pl.headKw at hk;split at hk
  ·split at hk
   ·obtain rfl:=Option.some.inj hk;exact⟨_,rfl⟩
   ·simp at hk
  ·simp at hk
def RdQ(M:Nat->Prop)(w:World)(s:Sg)(tb mb:Nat)(ps:List (PV×PV))(bs:Byt)(v ev:Value)(w':World):Prop :=
 w.grownBy w' (some mb)/\∃t,SgR s t/\t.ns.length<=s.ns.length+300 /\
  ((∃c es,Pl.check bs=c/\0<c/\c<=5/\ev=aY es c/\t.pb=s.pb/\Rdr M w' t tb mb ps) \/
   (∃f,Pl.check bs=0/\Pl.readF bs=some f/\ev=.nilIface/\Rdr M w' t tb mb (ps++(Pl.settle f ps.length).2)/\RFm M w' t v (Pl.settle f ps.length).1))
theorem RdQ.of_fm{M:Nat->Prop}{w:World}{s:Sg}{tb mb:Nat}{ps:List (PV×PV)}{bs:Byt}{m z:Nat}{t:Tr}{o:FR}{v ev:Value}{w':World}(h:FmQ M w s tb mb ps o z v ev w')(ho:o=fmF (Pl.topOf m t) ps.length)(hz:z<=300)(hch:Pl.check bs=if Pl.isTop m t=true then 0 else 5)(hrd:Pl.readF bs=Pl.topOf m t):RdQ M w s tb mb ps bs v ev w':=by
 obtain⟨h1,u,h2,h3,⟨r,h4,rfl,h5,h6⟩ | ⟨h4,h5,h6,es,rfl⟩⟩:=h
 ·refine⟨h1,u,h2,by omega,.inr ?_⟩;rw [ho] at h4;unfold fmF at h4;obtain⟨f,hf,rfl⟩:=Option.map_eq_some_iff.1 h4;refine⟨f,?_,hrd.trans hf,rfl,h5,h6⟩;rw [hch,<-iQ,hf];rfl
 ·refine⟨h1,u,h2,by omega,.inl ⟨5,es,?_,by omega,by omega,rfl,h5,h6⟩⟩;rw [ho] at h4;unfold fmF at h4;rw [hch,<-iQ,Option.map_eq_none_iff.1 h4];rfl
theorem xY{bs:Byt}{l:List (List UInt8)}{p:Pl.PR}(h:bF bs=some l)(hp:Pl.pd l.length l=some p):Pl.readF bs=Pl.topOf (l.length-1) p.t:=by unfold Pl.readF;rw [(dR h).1];dsimp only;rw [hp]
theorem pU{bs:List UInt8}(h:Pl.check bs≠1):bs.length<=300:=by
 by_cases hl:300<bs.length
 ·exact absurd (kX hl) h
 ·omega
theorem aDC(b:ByteArray)(M:Nat->Prop)(w:World)(s:Sg)(tb mb:Nat)(ps:List (PV×PV))(hR:Rdr M w s tb mb ps)(hge:GE w)(hz:s.ns.length+300<=NsMax) :Calls prog 40 #[.string b,.pointer (some ⟨tb,0,none⟩)] w fun e w'=>∃v ev,e=.returned (.tuple #[v,ev])/\RdQ M w s tb mb ps b.data.toList v ev w':=by
 have as1:=Tryz.asNumber_List;have as2:=Tryz.asTruth_List;have as3:=Tryz.asName_List;have as4:=Tryz.asList_List;have HR:Hid (Rdr M w s tb mb ps):=hR;have HZ:Hid (s.ns.length+300<=NsMax):=hz;clear hR hz;go_enter func40,ntmps40;go_wp2_with fail;refine(p_dread b w hge).mono ?_;rintro e w1 ⟨hB1,hcase⟩;have HB1:Hid (Below _ _ _):=hB1;clear hB1 hge;rcases hcase with⟨c,es,hc,hc0,hc5,rfl⟩ | ⟨l,p,v,hs,hl,hp,hgr,hch,rfl,hrep⟩
 ·have HC:Hid _:=hc;clear hc;unfold aY;go_wp2_with fail;go_ret2;exact⟨_,_,rfl,aI HB1.out,s,SgR.refl _,Nat.le_add_right _ _,.inl ⟨c,_,HC.out,hc0,hc5,rfl,rfl,HR.out.below HB1.out⟩⟩
 ·have hrf:=xY hs hp;have hok:=Pl.pd_ok _ _ _ hp
  have hbl:∀t∈l,t.length<=300:=fun t ht=>by
   have h1:Pl.check b.data.toList≠1:=by rw [hch];split<;>simp
   have h2:=pU h1;have h3:=(Pl.toks_size (dR hs).1).2 t ht;omega
  have hbig:=hok.big hgr hbl;have hwds:=hok.words;obtain⟨n,hn⟩:=uJ hp;rw [hn] at hrep hbig hwds;rw [hn,Nat.add_sub_cancel] at hch hrf;have hn300:n+1<=300:=by omega
  have hrep1:RepP (fun k=>¬M k) (n+1) w1 v p.t:=RepP.mono (fun k _ hk hm=>by have:=HR.out.mlt k hm;omega) _ _ _ hrep;have HCh:Hid (Pl.check b.data.toList=(if Pl.isTop n p.t=true then 0 else 5)/\Pl.readF b.data.toList=Pl.topOf n p.t):=⟨hch,hrf⟩
  have HB2:Hid (Below w.heap.size w (w1.alloc (rdO tb))):=HB1.out.alloc HB1.out.size _;have hB3:Below w1.heap.size w1 (w1.alloc (rdO tb)):=bB _ _;have hR2:Rdr M (w1.alloc (rdO tb)) s tb mb ps:=HR.out.below HB2.out;have hz2:s.ns.length+tsz (n+1) p.t<=NsMax:=by have:=HZ.out;omega
  have hz3:tsz (n+1) p.t<=300:=by omega
  have hform:(Pl.topOf n p.t=formOf (n+1) p.t)->Hid (Calls prog 67 #[.agg #[.pointer (some ⟨tb,0,none⟩)],v] (w1.alloc (rdO tb)) fun e w'=>∃v ev,e=.returned (.tuple #[v,ev])/\Hid (RdQ M w s tb mb ps b.data.toList v ev w')):=fun ht=>show Calls _ _ _ _ _ from
   (wP (n+1) (by omega) M w1 v p.t hrep1 hbig M (w1.alloc (rdO tb)) s tb mb ps (Stp.of_below hB3) hR2 hz2).mono (fun e w' h=>by
    obtain⟨v,ev,h1,h2⟩:=h.one
    exact⟨v,ev,h1,RdQ.of_fm (h2.from_ HB2.out) (by rw [ht]) hz3 HCh.out.1 HCh.out.2⟩)
  have cw:(w1.alloc (rdO tb)).cell? ⟨w1.heap.size,0,none⟩=some (.pointer (some ⟨tb,0,none⟩)):=aA (heap_alloc_new w1 (rdO tb)) 0;clear hch hrf hp hs hn hl hok hbl hrep hwds hgr;by_cases hls:∃ts,p.t=.agg ts
  ·obtain⟨ts,hts⟩:=hls;rw [hts] at hrep1 hform hbig hz2 hz3;obtain⟨sl,vs,rfl,hS,hA,hlen⟩:=hrep1.drow;have hkw:=pF (tb:=tb) hS hA;by_cases hk:eG ts=[100,101,102,105,110,101]
   ·obtain⟨r,rfl⟩:=kwOf_is hk
    match vs,hA.1 with
    | u::us,_ =>
     rw [hk] at hkw;obtain⟨g,off,cap,rfl,hcap,hg,c0,_⟩:=(Sl.slOf hS).cell0;have HK:=(show Hid (∀L c,L=us.length+1->c=cap->Calls prog 65 #[.slice (some ⟨g,off,none⟩) L c] (w1.alloc (rdO tb)) fun e w'=>e=.returned (.string ⟨([100,101,102,105,110,101]:List UInt8).toArray⟩)/\w1.alloc (rdO tb)=w') from by rintro _ _ rfl rfl;exact hkw)
     have hS2:DRow M (w1.alloc (rdO tb)).drew (.slice (some ⟨g,off,none⟩) (us.length+1) cap) (u::us):=Sl.stp (Stp.of_below (hB3.drew)) hS;have hsum:(r.map (tsz n)).sum<=tsz (n+1) (.agg (.lit (.string Pl.defineW)::r)):=by show _<=((.lit (.string Pl.defineW)::r).map (tsz n)).sum;simp
     have HD:Hid (∀(ao:Option Addr)(L c:Nat),L=us.length->us.length<=c->(us.length≠0->ao=some ⟨g,off+1,none⟩)->Calls prog 66 #[.agg #[.pointer (some ⟨tb,0,none⟩)],.slice ao L c] (w1.alloc (rdO tb)).drew fun e w'=>∃v ev,e=.returned (.tuple #[v,ev])/\Hid (RdQ M w s tb mb ps b.data.toList v ev w')):=fun ao L c h0 h1 h2=>by
      subst h0
      exact(yW n (wP n (by omega)) M _ s tb mb ps _ us r (hR2.below (Below.refl _ _).drew) (Sl.tail1 hS2 us.length rfl ao c h1 h2) (AllD.below (AllD.tail hA) hB3.drew) (fun x hx=>hbig x (List.mem_cons_of_mem _ hx)) (by omega) _ rfl).mono (fun e w' h=>by
       obtain⟨v,ev,h1,h2⟩:=h.one;refine⟨v,ev,h1,RdQ.of_fm (h2.from_ HB2.out.drew) ?_ (Nat.le_trans hsum hz3) HCh.out.1 HCh.out.2⟩
       rw [hts,mK])
     clear hkw hk hA hS hrep1 hform hts hS2 hR2 hB3 hbig;obtain⟨c,rfl⟩:∃c,cap=c+1:=⟨cap-1,by omega⟩
     rcases c with _ | c
     all_goals clear HCh as1 as2 as3 HR HZ HB1 HB2
     all_goals
     go_wp2_with (go_at_call 65;refine(HK.out _ _ (by omega) (by omega)).mono ?_;rintro e w' ⟨rfl,rfl⟩)
     go_region_with (go_at_call 66;refine(HD.out _ _ _ (by omega) (by omega) (by intro hh;first | rfl | (exfalso;omega))).mono ?_;rintro e w2 ⟨v,ev,rfl,HQ⟩)
     all_goals
      go_wp2_with fail
      go_ret2;exact⟨_,_,rfl,HQ.out⟩
   ·have HF:=hform (rL hk);have hk1:(eG ts==[100,101,102,105,110,101])=false:=by simpa using hk
    obtain⟨ao,cap,rfl,_⟩:=Sl.slOf hS;have HK:Hid _:=hkw;generalize eG ts=kk at *;clear hkw hk hA hS hrep1 hform hts hR2 hB3 hbig;go_wp2_with (go_at_call 65;refine(Calls.mono HK.out) ?_;rintro e w' ⟨rfl,rfl⟩);refine Calls.mono HF.out ?_;rintro e w3 ⟨v9,ev9,rfl,HQ⟩;go_wp2_with fail;go_ret2;exact⟨_,_,rfl,HQ.out⟩
  ·have HF:=hform (rM hls);obtain⟨y,hy⟩:=RepP.no_list hrep1 hls;clear hrep1 hls hform hR2 hB3 hbig;rcases hy with rfl | rfl | rfl
   ·go_wp2_with fail
    refine Calls.mono HF.out ?_;rintro e w3 ⟨v9,ev9,rfl,HQ⟩;go_wp2_with fail;go_ret2;exact⟨_,_,rfl,HQ.out⟩
   ·go_wp2_with fail
    refine Calls.mono HF.out ?_;rintro e w3 ⟨v9,ev9,rfl,HQ⟩;go_wp2_with fail;go_ret2;exact⟨_,_,rfl,HQ.out⟩
   ·go_wp2_with fail
    refine Calls.mono HF.out ?_;rintro e w3 ⟨v9,ev9,rfl,HQ⟩;go_wp2_with fail;go_ret2;exact⟨_,_,rfl,HQ.out⟩
end
section
open Go.RowKit Go.Extern.Stop Go.Stop Go.Extern
theorem Tryz.valueOfP(t:Addr)(w:World):(ReflectliteValue.unpack (.iface 130 (.pointer (some t)))).run prog w
  = .ok (.agg #[.pointer (some ⟨8,130,none⟩),.pointer (some ⟨w.heap.size,0,none⟩),.int .u64 150]) (w.alloc (.cells #[.pointer (some t)] 130)):=by kernel_rfl
theorem Tryz.typeP(a:Addr)(w:World):(ReflectliteValue.methodAny (ReflectliteValue.valueError "reflectlite.Value.Type" 0) (fun t _ _ _=>ReflectliteType.toType t) #[.agg #[.pointer (some ⟨8,130,none⟩),.pointer (some a),.int .u64 150]]).run prog w
  = .ok (.iface 301 (.agg #[.pointer (some ⟨8,130,none⟩)])) w:=by kernel_rfl
theorem Tryz.methodKind(h:Value)(w:World):(Go.method 638 301 (.agg #[h]) "Kind").run prog w=.ok (253,h) w:=by kernel_rfl
theorem Tryz.kindP(w:World):((ReflectliteType.abiMethod fun t=>(fun a:Nat=>Value.int IntKind.u8 (a:Int)) <$> Rtype.kind t) #[.pointer (some ⟨8,130,none⟩)]).run prog w=.ok (.int .u8 22) w:=by kernel_rfl
theorem Tryz.kindF(w:World):((ReflectliteType.abiMethod fun t=>(fun a:Nat=>Value.int IntKind.u8 (a:Int)) <$> Rtype.kind t) #[.pointer (some ⟨8,128,none⟩)]).run prog w=.ok (.int .u8 2) w:=by kernel_rfl
theorem Tryz.isNilP0(a:Addr)(W:World) :(ReflectliteValue.method (ReflectliteValue.valueError "reflectlite.Value.IsNil" 0) ReflectliteValue.isNil #[.agg #[.pointer (some ⟨8,130,none⟩),.pointer (some a),.int .u64 150]]).run prog W=(ReflectliteValue.isNil 130 a 150 22).run prog W:=by kernel_rfl
theorem Tryz.isNilP(a p:Addr)(W:World)(ha:W.cell? a=some (.pointer (some p))) :(ReflectliteValue.method (ReflectliteValue.valueError "reflectlite.Value.IsNil" 0) ReflectliteValue.isNil #[.agg #[.pointer (some ⟨8,130,none⟩),.pointer (some a),.int .u64 150]]).run prog W=.ok (.bool false) W:=by rw [Tryz.isNilP0];simp [ReflectliteValue.isNil,loadVar,isAgg,underlying,underlying130,ha,Result.andThen]
theorem Tryz.methodElem(h:Value)(w:World):(Go.method 638 301 (.agg #[h]) "Elem").run prog w=.ok (367,.agg #[h]) w:=by kernel_rfl
theorem Tryz.methodImplements(h:Value)(w:World):(Go.method 638 301 (.agg #[h]) "Implements").run prog w=.ok (368,.agg #[h]) w:=by kernel_rfl
theorem Tryz.methodAssignableTo(h:Value)(w:World):(Go.method 638 301 (.agg #[h]) "AssignableTo").run prog w=.ok (365,.agg #[h]) w:=by kernel_rfl
theorem Tryz.methodUnwrap(a b:Value)(w:World):(Go.method 638 251 (.agg #[a,b]) "Unwrap").run prog w=.ok (352,.agg #[a,b]) w:=by kernel_rfl
theorem Tryz.elemP(w:World):(ReflectliteType.method ReflectliteType.elem #[.agg #[.pointer (some ⟨8,130,none⟩)]]).run prog w=.ok (.iface 301 (.agg #[.pointer (some ⟨8,128,none⟩)])) w:=by kernel_rfl
theorem Tryz.implementsF(w:World):(ReflectliteType.relation "Implements" ReflectliteType.implements_ #[.agg #[.pointer (some ⟨8,128,none⟩)],.iface 301 (.agg #[.pointer (some ⟨8,63,none⟩)])]).run prog w=.ok (.bool true) w:=by kernel_rfl
theorem Tryz.typeOfF(v:Value)(w:World):(ReflectliteType.typeOf #[.iface 128 v]).run prog w=.ok (.iface 301 (.agg #[.pointer (some ⟨8,128,none⟩)])) w:=by kernel_rfl
theorem Tryz.typeOfD(v:Value)(w:World):(ReflectliteType.typeOf #[.iface 251 v]).run prog w=.ok (.iface 301 (.agg #[.pointer (some ⟨8,251,none⟩)])) w:=by kernel_rfl
theorem Tryz.assignableF(w:World):(ReflectliteType.relation "AssignableTo" ReflectliteType.assignableTo #[.agg #[.pointer (some ⟨8,128,none⟩)],.iface 301 (.agg #[.pointer (some ⟨8,128,none⟩)])]).run prog w=.ok (.bool true) w:=by kernel_rfl
theorem Tryz.assignableD(w:World):(ReflectliteType.relation "AssignableTo" ReflectliteType.assignableTo #[.agg #[.pointer (some ⟨8,251,none⟩)],.iface 301 (.agg #[.pointer (some ⟨8,128,none⟩)])]).run prog w=.ok (.bool false) w:=by kernel_rfl
theorem Tryz.valueOfF(n:Int)(w:World):(ReflectliteValue.unpack (.iface 128 (.int .i64 n))).run prog w
  = .ok (.agg #[.pointer (some ⟨8,128,none⟩),.pointer (some ⟨w.heap.size,0,none⟩),.int .u64 130]) (w.alloc (.cells #[.int .i64 n] 128)):=by kernel_rfl
theorem Tryz.elemOfP(w:World):(Rtype.elem? 130).run prog w=.ok (some 128) w:=by kernel_rfl
theorem Tryz.mkF(p:Addr)(w:World):(ReflectliteValue.mk 128 p ReflectliteValue.flagAddr).run prog w=.ok (.agg #[.pointer (some ⟨8,128,none⟩),.pointer (some p),.int .u64 386]) w:=by kernel_rfl
theorem Tryz.elemVP0(a:Addr)(W:World) :(ReflectliteValue.method (ReflectliteValue.valueError "reflectlite.Value.Elem" 0) ReflectliteValue.elem #[.agg #[.pointer (some ⟨8,130,none⟩),.pointer (some a),.int .u64 150]]).run prog W=(ReflectliteValue.elem 130 a 150 22).run prog W:=by kernel_rfl
theorem Tryz.elemVP(a p:Addr)(W:World)(ha:W.cell? a=some (.pointer (some p))) :(ReflectliteValue.method (ReflectliteValue.valueError "reflectlite.Value.Elem" 0) ReflectliteValue.elem #[.agg #[.pointer (some ⟨8,130,none⟩),.pointer (some a),.int .u64 150]]).run prog W
   = .ok (.agg #[.pointer (some ⟨8,128,none⟩),.pointer (some p),.int .u64 386]) W:=by
 rw [Tryz.elemVP0];simp [ReflectliteValue.elem,loadVar,isAgg,underlying,underlying130,ha,Result.andThen,Tryz.elemOfP,Tryz.mkF]
theorem Tryz.setF0(ta b:Addr)(W:World) :(ReflectliteValue.set #[.agg #[.pointer (some ⟨8,128,none⟩),.pointer (some ta),.int .u64 386],.agg #[.pointer (some ⟨8,128,none⟩),.pointer (some b),.int .u64 130]]).run prog W
   = (loadVar 128 b >>= fun val=>storeVar 128 ta val >>= fun _=>pure (.tuple #[])).run prog W:=by kernel_rfl
theorem Tryz.setF(ta b:Addr)(n:Int)(old:Value)(W:World)(hb:W.cell? b=some (.int .i64 n))(ht:W.cell? ta=some old)(hf:W.frozen? ta=false) :(ReflectliteValue.set #[.agg #[.pointer (some ⟨8,128,none⟩),.pointer (some ta),.int .u64 386],.agg #[.pointer (some ⟨8,128,none⟩),.pointer (some b),.int .u64 130]]).run prog W
   = .ok (.tuple #[]) (W.setCell ta (.int .i64 n)):=by
 rw [Tryz.setF0];simp [loadVar,isAgg,underlying,underlying128,hb,Result.andThen,storeVar,Value.cells,storeCells,Addr.add];rw [run_store prog W ta _ _ (by rfl)];simp [ht,hf]
theorem Tryz.asD_As(v:Value)(w:World):(Instr.typeAssert (.iface 251 v) 63 306 true).run prog w=.ok (.tuple #[.nilIface,.bool false]) w:=run_typeAssert_lacksB underlying306 (by kernel_rfl) (by kernel_rfl) v _ w
theorem Tryz.asD_Unwrap(v:Value)(w:World):(Instr.typeAssert (.iface 251 v) 63 309 true).run prog w=.ok (.tuple #[.iface 251 v,.bool true]) w:=run_typeAssert_hasB underlying309 (by kernel_rfl) v _ w
theorem yE(s:ByteArray)(code:Int)(w:World):Calls prog 352 #[.agg #[.string s,.iface 128 (.int .i64 code)]] w fun e w'=>e=.returned (.iface 128 (.int .i64 code))/\w.alloc (.cells #[.string s,.iface 128 (.int .i64 code)] 251)=w':=by
 go_enter func352,ntmps352
 go_wp2_with fail
 go_ret;exact⟨rfl,rfl⟩
theorem as_hit(s:ByteArray)(code:Int)(t:Addr)(old:Value)(w:World)(hg:w.cell? ⟨0,0,none⟩=some (.iface 301 (.agg #[.pointer (some ⟨8,63,none⟩)])))(ht0:w.cell? t=some old)(hf0:w.frozen? t=false) :Calls prog 68 #[.iface 251 (.agg #[.string s,.iface 128 (.int .i64 code)]),.iface 130 (.pointer (some t))] w fun ev w'=>ev=.returned (.bool true)/\w'=(((((w.alloc (.cells #[.pointer (some t)] 130)).alloc (.cells #[.pointer (some ⟨8,130,none⟩),.pointer (some ⟨w.heap.size,0,none⟩),.int .u64 150] 226)).alloc (.cells #[.pointer (some ⟨8,130,none⟩),.pointer (some ⟨w.heap.size,0,none⟩),.int .u64 150] 226)).alloc (.cells #[.string s,.iface 128 (.int .i64 code)] 251)).alloc (.cells #[.int .i64 code] 128)).setCell t (.int .i64 code):=by
 have h27:=@run_callFunc_extern prog 115 _ (fun args=>ReflectliteValue.unpack (args.getD 0 (.tuple #[]))) func115 (by kernel_rfl) (by kernel_rfl) (by kernel_rfl) (by kernel_rfl);have h28:=@run_callFunc_extern prog 116 _ (ReflectliteValue.methodAny (ReflectliteValue.valueError "reflectlite.Value.Type" 0) (fun t _ _ _=>ReflectliteType.toType t)) func116 (by kernel_rfl) (by kernel_rfl) (by kernel_rfl) (by kernel_rfl);have h29:=@run_callFunc_extern prog 117 _ (ReflectliteValue.method (ReflectliteValue.valueError "reflectlite.Value.IsNil" 0) ReflectliteValue.isNil) func117 (by kernel_rfl) (by kernel_rfl) (by kernel_rfl) (by kernel_rfl);have h117:=@run_callFunc_extern prog 253 _ (ReflectliteType.abiMethod fun t=>do pure (.int .u8 (<- Rtype.kind t))) func253 (by kernel_rfl) (by kernel_rfl) (by kernel_rfl) (by kernel_rfl);have h134:=@run_callFunc_extern prog 367 _ (ReflectliteType.method ReflectliteType.elem) func367 (by kernel_rfl) (by kernel_rfl) (by kernel_rfl) (by kernel_rfl);have h135:=@run_callFunc_extern prog 368 _ (ReflectliteType.relation "Implements" ReflectliteType.implements_) func368 (by kernel_rfl) (by kernel_rfl) (by kernel_rfl) (by kernel_rfl);have h46:=@run_callFunc_extern prog 158 _ ReflectliteType.typeOf func158 (by kernel_rfl) (by kernel_rfl) (by kernel_rfl) (by kernel_rfl);have h132:=@run_callFunc_extern prog 365 _ (ReflectliteType.relation "AssignableTo" ReflectliteType.assignableTo) func365 (by kernel_rfl) (by kernel_rfl) (by kernel_rfl) (by kernel_rfl);have h47:=@run_callFunc_extern prog 159 _ (ReflectliteValue.method (ReflectliteValue.valueError "reflectlite.Value.Elem" 0) ReflectliteValue.elem) func159 (by kernel_rfl) (by kernel_rfl) (by kernel_rfl) (by kernel_rfl);have h48:=@run_callFunc_extern prog 160 _ ReflectliteValue.set func160 (by kernel_rfl) (by kernel_rfl) (by kernel_rfl) (by kernel_rfl);have x1:=Tryz.typeOfF;have x2:=Tryz.typeOfD;have x3:=Tryz.methodAssignableTo;have x4:=Tryz.assignableF;have x5:=Tryz.assignableD;have x6:=Tryz.valueOfF;have x7:=Tryz.valueOfP;have x8:=Tryz.typeP;have x9:=Tryz.methodKind;have x10:=Tryz.methodElem;have x11:=Tryz.methodImplements;have x12:=Tryz.kindP;have x13:=Tryz.kindF;have x14:=Tryz.elemP;have x15:=Tryz.implementsF;have x16:=Tryz.asD_As;have x17:=Tryz.asD_Unwrap;have x18:=Tryz.methodUnwrap;have n8:=Tryz.isNilP ⟨w.heap.size,0,none⟩ t ((w.alloc (.cells #[.pointer (some t)] 130)).alloc (.cells #[.pointer (some ⟨8,130,none⟩),.pointer (some ⟨w.heap.size,0,none⟩),.int .u64 150] 226)) (by simp)
 have hlt:0<w.heap.size:=by
  rcases Nat.eq_zero_or_pos w.heap.size with h0 | h
  ·simp [World.cell?,h0] at hg
  ·exact h
 have hg2:((w.alloc (.cells #[.pointer (some t)] 130)).alloc (.cells #[.pointer (some ⟨8,130,none⟩),.pointer (some ⟨w.heap.size,0,none⟩),.int .u64 150] 226)).cell? ⟨0,0,none⟩=some (.iface 301 (.agg #[.pointer (some ⟨8,63,none⟩)])):=by rw [World.cell?_alloc_lt _ _ ⟨0,0,none⟩ (by simp),World.cell?_alloc_lt _ _ ⟨0,0,none⟩ hlt];exact hg
 have htl:t.block<w.heap.size:=by
  rcases Nat.lt_or_ge t.block w.heap.size with h | h
  ·exact h
  ·simp [World.cell?,Array.getElem?_eq_none h] at ht0
 have el:=Tryz.elemVP ⟨w.heap.size,0,none⟩ t ((((w.alloc (.cells #[.pointer (some t)] 130)).alloc (.cells #[.pointer (some ⟨8,130,none⟩),.pointer (some ⟨w.heap.size,0,none⟩),.int .u64 150] 226)).alloc (.cells #[.pointer (some ⟨8,130,none⟩),.pointer (some ⟨w.heap.size,0,none⟩),.int .u64 150] 226)).alloc (.cells #[.string s,.iface 128 (.int .i64 code)] 251)) (by rw [World.cell?_alloc_lt _ _ ⟨w.heap.size,0,none⟩ (by simp;omega),World.cell?_alloc_lt _ _ ⟨w.heap.size,0,none⟩ (by simp;omega)];simp)
 have st:=Tryz.setF t ⟨w.heap.size+1+1+1+1,0,none⟩ code old (((((w.alloc (.cells #[.pointer (some t)] 130)).alloc (.cells #[.pointer (some ⟨8,130,none⟩),.pointer (some ⟨w.heap.size,0,none⟩),.int .u64 150] 226)).alloc (.cells #[.pointer (some ⟨8,130,none⟩),.pointer (some ⟨w.heap.size,0,none⟩),.int .u64 150] 226)).alloc (.cells #[.string s,.iface 128 (.int .i64 code)] 251)).alloc (.cells #[.int .i64 code] 128))
  (by rw [World.cell?_alloc_at _ _ _ _ (by simp)];rfl)
  (by rw [World.cell?_alloc_lt _ _ t (by simp;omega),World.cell?_alloc_lt _ _ t (by simp;omega),World.cell?_alloc_lt _ _ t (by simp;omega),World.cell?_alloc_lt _ _ t (by simp;omega),World.cell?_alloc_lt _ _ t htl];exact ht0)
  (by rw [World.frozen?_alloc_old _ _ t (by simp;omega),World.frozen?_alloc_old _ _ t (by simp;omega),World.frozen?_alloc_old _ _ t (by simp;omega),World.frozen?_alloc_old _ _ t (by simp;omega),World.frozen?_alloc_old _ _ t (Nat.ne_of_lt htl)];exact hf0)
 go_enter func68,ntmps68
 go_wp2
 refine wp_loop_rounds 2 ?_;rw [rounds_succ];go_wp2_with (go_at_call 352;refine(yE _ _ _).mono ?_;rintro e w' ⟨rfl,rfl⟩);rw [rounds_succ];go_wp2;go_ret;exact⟨rfl,rfl⟩
def GT(w:World):Prop:=w.cell? ⟨0,0,none⟩=some (.iface 301 (.agg #[.pointer (some ⟨8,63,none⟩)]))
theorem GT.below{w w':World}(h:GT w)(hb:Below w.heap.size w w'):GT w':=(hb.cell (p:=⟨0,0,none⟩) (World.block_lt_of_cell? w _ h)).trans h
theorem aCA(s:ByteArray)(code:Int)(w:World)(hg:GT w):Calls prog 42 #[aY s code] w fun e w'=>e=.returned (.int .i64 code)/\Below w.heap.size w w':=by
 unfold aY;have HG:Hid (GT w):=hg;clear hg;go_enter func42,ntmps42;go_wp2_with fail;have HB:Hid (∀o1 o2 o3 o4 o5:Obj,Below w.heap.size w ((((((w.alloc (.cells #[.int .i64 0] 128)).alloc o1).alloc o2).alloc o3).alloc o4).alloc o5)):=fun o1 o2 o3 o4 o5=>by have h0:Below w.heap.size w (w.alloc (.cells #[.int .i64 0] 128)):=(Below.refl _ _).alloc (Nat.le_refl _) _;exact((((h0.alloc (by simp) o1).alloc (by simp;omega) o2).alloc (by simp;omega) o3).alloc (by simp;omega) o4).alloc (by simp;omega) o5
 have HK:Hid (∀o1 o2 o3 o4 o5:Obj,((((((w.alloc (.cells #[.int .i64 0] 128)).alloc o1).alloc o2).alloc o3).alloc o4).alloc o5).heap[w.heap.size]?=some (.cells #[.int .i64 0] 128 (0,0))):=fun o1 o2 o3 o4 o5=>by rw [Below.heap_alloc _ _ _ (by simp;omega),Below.heap_alloc _ _ _ (by simp;omega),Below.heap_alloc _ _ _ (by simp;omega),Below.heap_alloc _ _ _ (by simp;omega),Below.heap_alloc _ _ _ (by simp)];exact heap_alloc_new _ _
 refine(as_hit s code ⟨w.heap.size,0,none⟩ (.int .i64 0) _ (HG.out.below ((Below.refl _ _).alloc (Nat.le_refl _) _)) (aA (heap_alloc_new _ _) 0) (aF (heap_alloc_new _ _) 0)).mono ?_;rintro e w' ⟨rfl,hw⟩;have hB:Below w.heap.size w w':=by rw [hw];exact(HB.out _ _ _ _ _).setCell (Nat.le_refl _) _
 have hc:w'.cell? ⟨w.heap.size,0,none⟩=some (.int .i64 code):=by rw [hw];exact aA (aD (HK.out _ _ _ _ _) 0 _) 0
 have HB':Hid _:=hB;clear hB hw HB HK;go_wp2_with fail;go_ret;exact⟨rfl,HB'.out⟩
theorem as_nil(t:Value)(w:World) :Calls prog 68 #[.nilIface,t] w fun e w'=>e=.returned (.bool false)/\w=w':=by
 go_enter func68,ntmps68
 go_wp2
 go_ret;exact⟨rfl,rfl⟩
theorem sL(w:World):Calls prog 42 #[.nilIface] w fun e w'=>e=.returned (.int .i64 0)/\Below w.heap.size w w':=by
 go_enter func42,ntmps42
 go_wp2_with (go_at_call 68;refine(as_nil _ _).mono ?_;rintro e w' ⟨rfl,rfl⟩)
 go_ret;exact⟨rfl,(Below.refl _ _).alloc (Nat.le_refl _) _⟩
end
end Go.Proofs.YtkgbdddkcjpgfaaGreatDoor
