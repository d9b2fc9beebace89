import PyProof.Rows.All
import Wide.All
import OpenK.AllK
import Wide.FinOn
import PyProof.EqAt
import PyProof.EqKinds
import PyProof.TupleCall
import PyProof.P3In
import PyProof.NeData
import PyProof.ConsumeS
import PyProof.WalksMore
import PyProof.ReprRoads
import PyProof.ReprLen
import PyProof.Draws
import PyProof.EnumMake
import PyProof.EnumFor
import PyProof.CallFns
import PyProof.Rows.CallKwBuiltin
import Lean
import PyProof.ZipIter
import PyProof.Rows.ReprOcc
import PySem.Challenge.RW_rootwebs_k33_trees_and_words
set_option Elab.async false
set_option linter.all false
set_option maxHeartbeats 1000000
set_option maxHeartbeats 2000000
set_option maxHeartbeats 400000
set_option maxHeartbeats 4000000
set_option maxRecDepth 100000
set_option hygiene false
local macro_rules|`(0e0)=>`(by omega)|`(0e1)=>`(⟨rfl,rfl,rfl,by decide +kernel,rfl,by decide +kernel,by decide +kernel⟩)|`(0e2)=>`(by kernel_rfl)|`(0e3)=>`(s.heap.objs.size)|`(0e4)=>`(by decide)|`(0e5)=>`(ks.map aq)|`(0e6)=>`(by simp)|`(0e7)=>`(.obj Y.length)|`(0e8)=>`(jE X Nc scope cl C s H fp)|`(0e9)=>`(cC (.int 1))|`(1e0)=>`(by decide +kernel)|`(1e1)=>`(model X.prog X.w)|`(1e2)=>`(model prog w)|`(1e3)=>`(rM.of (nm:="NoTree") (q:="NoTree") (N:=84) (bs:=[(.ref 24)]) (bm:=[(.ref 24),(.type "ValueError"),(.type "Exception"),(.type "BaseException"),(.type "object")]) (hd:=true) (sn:=[]) (sub:=[]) (ab:=false) (col:=none) (dd:=none) (k0:=some (.ref 76)) (k1:=none) (k2:=some (.str "NoTree" 271)) (k3:=some (.str "NoTree" 279)) (k5:=some (.bool true)) Xb Gb 0e2 0e2 0e2 0e2 0e2)|`(1e4)=>`(cC (.int 0))|`(1e5)=>`(hr.mono 0e4)|`(1e6)=>`(F.b2 (by rfl) fun _ _ _ _ _ _ _ _=>by rfl)|`(1e7)=>`(W.mg_of X G 0e2)|`(1e8)=>`(List Int)|`(1e9)=>`(F.b1 (by rfl) fun _ _ _ _ _ _ _=>by rfl)|`(2e0)=>`(lT (gr (ay (gq false) (aj 1) 1e4)) (bx (cc (fR (aj 3)) [none,some 0] (ak 0) (gL) (gP)) (ak 5)) (lT (gr (ay (gq false) (aj 1) 0e9)) (bx (cc (fR (aj 3)) [none,some 0] (ak 0) (gK) (gO)) (ak 5)) (lT (gr (ay (gq false) (aj 1) (cC (.int 2)))) (bx (ay bG (cc (fT kr (ag (ay dN (aj 2) 0e9) (aA))) [none] (ak 0) (bj) (eH)) (ay nr (fD (ag (bY (ag 1e4 (ag (ay dN (aj 2) 0e9) (aA)))) (aA))) (aE qZ (ag (ay (dG .Gt) (aj 2) (cC (.int 2))) (aA))))) (ak 5)) (lT (gr (ay (gq false) (aj 1) (cC (.int 3)))) (bx (cc (fT kr (ag (ay dN (aj 2) 0e9) (aA))) [none] (ak 0) (bj) (gN)) (ak 5)) (lT (gr (ay (gq false) (aj 1) (cC (.int 4)))) (bx (cc (fT pZ (ag 0e9 (ag (aj 2) (aA)))) [none] (ak 0) (bj) (eG)) (ak 5)) (bx (cc (fT pZ (ag 0e9 (ag (aj 2) (aA)))) [none,some 0] (ak 0) (bj) (dc)) (ak 5)))))))|`(2e1)=>`(X.env)|`(2e2)=>`(W.fnOf x qual (fH st) (cW st) (aw st) .none kV doc pm an cdv ct)|`(2e3)=>`(aj 0)
local macro_rules|`(2e4)=>`(.tup [.int m,.tup 0e5])|`(2e5)=>`(dv K w)|`(2e6)=>`(aF 0)|`(2e7)=>`(its.toArray)|`(2e8)=>`([e].length+([]:List Keyword).length+(if ([]:List Keyword).isEmpty then 0 else 1)<30)|`(2e9)=>`(seqObj "list" #[] 0)|`(3e0)=>`(s.heap)|`(3e1)=>`(.lst xs)|`(3e2)=>`(aj 1)|`(3e3)=>`((·.1))|`(3e4)=>`(.ListComp elt [⟨tg,iter,ifs,0⟩] scope pos)|`(3e5)=>`(Gu P w K mg base N qual scope f cdv A outer s0 H0 E)|`(3e6)=>`(Addr×Obj)|`(3e7)=>`(M.length)|`(3e8)=>`(items.size)|`(3e9)=>`(.builtin "object.__class__")|`(4e0)=>`(aJ (aF 1) (aY))|`(4e1)=>`(qs.map bS)|`(4e2)=>`(xs.length)|`(4e3)=>`(Y1++[.lst a])|`(4e4)=>`(.bl false)|`(4e5)=>`(hr.units)|`(4e6)=>`(.ref f)|`(4e7)=>`(ns.map D.int)
local macro_rules|`(4e8)=>`(PE X a (tD p fa))|`(4e9)=>`(ag (bY (ag (aj 2) (ag (ay bG (xn (aj 3) (zp) (ix (aj 4))) (xn (aj 3) (ix (ay bG (aj 4) 0e9)) (zp))) (aA)))) (ag (bY (ag (aj 2) (ag (ay bG (ay oQ (aj 3) (nq vJ 0e9)) (bY (ag (bY (ag 1e4 (ag (aj 2) (aA)))) (aA)))) (aA)))) (ag (bY (ag (ay bG (aj 2) 0e9) (ag (aj 3) (aA)))) (ag (fD (ag (aj 2) (ag (aj 3) (aA)))) (aA)))))|`(5e0)=>`(Option Nat)|`(5e1)=>`(.int p)|`(5e2)=>`(fD (ag (bY (ag (aj 2) (ag (aE lL (ag (aj 3) (aA))) (aA)))) (ag (cC .non) (ag 1e4 (ag (bY (aA)) (ag (Dy) (ag (cC (.str "tree")) (ag (bY (ag (cC (.int 3)) (ag (bY (ag (bY (ag 1e4 (ag 0e9 (aA)))) (ag (bY (ag 1e4 (ag (cC (.int 2)) (aA)))) (ag (bY (ag 0e9 (ag (cC (.int 2)) (aA)))) (aA))))) (aA)))) (aA)))))))))|`(5e3)=>`(fun _ _ _ _ _=>fU)|`(5e4)=>`(.obj (Y.length+1))|`(5e5)=>`(ag 2e3 (aA))|`(5e6)=>`(aJ 2e6 (aY))|`(5e7)=>`(bN (N:=["_law_pen", "_law_way", "_law_many", "_law_every", "_law_other", "_law_ties"]) (sc:=aw bz) (Nc:=["_law_place"]) (cap:=[none]) rfl rfl 1e0)|`(5e8)=>`(.int (m:Int))|`(5e9)=>`(.bl true)|`(6e0)=>`(.tup 0e5)|`(6e1)=>`(cQ H2 s2.heap.objs.size (o0 s2.heap.objs.size))|`(6e2)=>`(.int m)|`(6e3)=>`(bP 2e6 (bA))|`(6e4)=>`(by simpa using hi)|`(6e5)=>`(aV (ak 0) (aV (ak 1) (cV)))|`(6e6)=>`(bO m ks)|`(6e7)=>`(aJ (bA) (aY))|`(6e8)=>`(.type "BaseException")|`(6e9)=>`(Y1.length)|`(7e0)=>`(A.deeper (envOfC qual (aw st) 0e3 f cdv))|`(7e1)=>`(aJ (aF 2) (aY))
local macro_rules|`(7e2)=>`(w.params)|`(7e3)=>`(ns.map V.int)|`(7e4)=>`(bE a b c)|`(7e5)=>`(RT _)|`(7e6)=>`(.builtin "ValueError.__new__")|`(7e7)=>`(starEach es 2e1)|`(7e8)=>`(.Call (.Name x px) (a::es) [] pos)|`(7e9)=>`(.fresh 0 0 led)|`(8e0)=>`(⟨by omega,by omega⟩)|`(8e1)=>`(s1.heap.objs.size)|`(8e2)=>`(Vo _)|`(8e3)=>`(.type "ValueError")|`(8e4)=>`(.ListComp elt (cl0::rest) scope pos)|`(8e5)=>`(Y.length)|`(8e6)=>`(s.heap.objs.size+1)|`(8e7)=>`(ag 3e2 (aA))|`(8e8)=>`(aF 1)|`(8e9)=>`(.str "rootwebs.errors" 187)|`(9e0)=>`(show X.A.in1.handled=none from I.ok.hd hc)|`(9e1)=>`(ps.map bS)|`(9e2)=>`(ha pins s B H _ I h)|`(9e3)=>`(.type "object")|`(9e4)=>`(PE X b (tD p fb))|`(9e5)=>`(ag (aj 2) (aA))
local macro_rules|`(9e6)=>`(cC (.int 2))|`(9e7)=>`(dM (ha pos pins s B H _ I h) fun us s1 ⟨vs,H1,I1,r1,q1⟩=>?_)|`(9e8)=>`(decide (items.size<=items2.size))|`(9e9)=>`(fun _=>trivial)|`(10e0)=>`(.obj 3e7)|`(10e1)=>`(fun r s'=>r=.ok (.ret (.bool true))/\OldK s₁.heap s'.heap/\s'.os=s₁.os/\AllBare s'.gens)|`(10e2)=>`(decide (items.size<items2.size))|`(10e3)=>`(nq (nV [] ["NoNumber", "NoTree"]) 2e3)|`(10e4)=>`(.obj i)|`(10e5)=>`(.builtin "getset_descriptor.__get__")|`(10e6)=>`(Int×Value)|`(10e7)=>`(.ref C)|`(10e8)=>`(EP X pins B Q)|`(10e9)=>`(by simp;omega)|`(11e0)=>`(W.fnOf name qual params body scope dV kV doc pm an cdv ct)|`(11e1)=>`(ay cv 2e3 1e4)|`(11e2)=>`(.int ((n:Int)+1))|`(11e3)=>`((false,eval a 2e1))|`(11e4)=>`(ax.mpr rfl)|`(11e5)=>`(bN (N:=["_law_pen", "_law_way", "_law_many", "_law_every", "_law_other", "_law_ties"]) (sc:=aw bz) (Nc:=["_law_pair", "_law_pen"]) (cap:=[none,some 0]) rfl rfl 1e0)|`(11e6)=>`(pM (.ref l) (E:=E) (Q1:=fun obj s1=>obj=.ref 0e3/\s1={s with heap:=s.heap.push {cls:=.type "set",dict:=none,data:=.set #[] 0 (.fresh 0 0 (nG w))}}) ⟨rfl,rfl⟩)|`(11e7)=>`(.obj a)|`(11e8)=>`(⟨e,⟨rfl,rfl,rfl⟩,rfl,⟨rfl,rfl,List.Pairwise.nil,fun z hz=>by simp at hz,rfl,fun z hz=>by simp at hz⟩,rfl,rfl,.inl ⟨rfl,by decide⟩,List.Perm.nil⟩)|`(11e9)=>`(wpAny_attempt (SG (name:=Str.ofString "__next__") hT Fx.slot_setiter_next (SI Fx.slot_setiter_next hT Fx.entry_setiter_next ?_ (Fx.args_setiter_next _))))
local macro_rules|`(12e0)=>`(⟨x,by rw[bF (uL q h (by intro z;cases z))];exact q⟩)|`(12e1)=>`(.Call (.Name "isinstance" px) [a,.Name xT pt] [] pos)|`(12e2)=>`((Obj.mapSeq (·++vs.toArray)))|`(12e3)=>`(ks++[[min u x,max u x]])|`(12e4)=>`(dM (hc pins s3 B H3 _ I3 q3) fun w' s4 ⟨z',H4,I4,r4,q4⟩=>dM (ho' pins s4 B H4 y z' u w' _ I4 r2 r4 q4) fun d' s5 ⟨z2,H5,I5,r5,k2,e2,q5⟩=>?_)|`(12e5)=>`((fun ρ' _ H' Z'=>∀B',dH p.K H' Z' ρ' B'->N B' H'))|`(12e6)=>`(SetTable.bits h%(t.mask+1))|`(12e7)=>`(UD S.ho S.hd S.fits ?_)|`(12e8)=>`(show cO (.own t all) M from ht)|`(12e9)=>`(ay cv 3e2 (ay dN 2e3 0e9))|`(13e0)=>`(RN ⟨_,rfl,RN h⟩)|`(13e1)=>`(.type "Exception")|`(13e2)=>`(.BoolOp .And (a::b::rest) pos)|`(13e3)=>`(.Compare a [op,op'] [b,c] pos)|`(13e4)=>`(bP 8e8 (bA))|`(13e5)=>`(Int×Int)|`(13e6)=>`(.inl rfl)|`(13e7)=>`(acc++[(q:Int)])|`(13e8)=>`(SetTable.bits h)|`(13e9)=>`(ds.map some++List.replicate (N.length-n) none)|`(14e0)=>`(bH (jm (lF (T:="int") 0e4 EB 0e4 0e4 nm.isinstance nm.int 2e6) (l5 (Ju (lF (T:="bool") 0e4 wC 0e4 0e4 nm.isinstance nm.bool 2e6)))))|`(14e1)=>`(s3.heap.objs.size)|`(14e2)=>`(.ref 0e3)|`(14e3)=>`(bE a' b' c')
local macro_rules|`(14e4)=>`(L.map D.int)|`(14e5)=>`(⟨_,_,_,t2,α2,⟨hg2,S.ex,rfl,T2,by rw[hpl2];exact hpl,by rw[hl2,hled];exact S.led,.inr ⟨hm2,by omega⟩,?_⟩,hkeys,hnd⟩)|`(14e6)=>`(.BoolOp .And (b::rest) pos)|`(14e7)=>`(envOfC qual scope 0e3 f cd)|`(14e8)=>`(nk p fr)|`(14e9)=>`(D.tup (List.map aq ks))|`(15e0)=>`(.int (i:Int))|`(15e1)=>`(fun _ _ _ _ _=>aF 0)|`(15e2)=>`((order.filterMap (es1[·]?)))|`(15e3)=>`(aW d__law_draw 1e5 (aJ 2e6 6e7))|`(15e4)=>`(.obj t)|`(15e5)=>`(.tup xs)|`(15e6)=>`(SetTable.turns t.mask)|`(15e7)=>`(show _<=1000 by omega)|`(15e8)=>`(.int i)|`(15e9)=>`(keywordEach [] 2e1)|`(16e0)=>`(aJ (bQ (aJ (bA) (aJ (bQ (aJ (bQ (aJ (bA) 6e7)) (aJ (bQ (aJ (bA) 6e7)) (aJ (bQ (aJ (bA) 6e7)) (aY))))) (aY)))) (aY))|`(16e1)=>`(dM (he pins s B H _ I h) fun v s1 ⟨x,H1,I1,r1,q1⟩=>?_)|`(16e2)=>`(ay cv 3e2 2e3)|`(16e3)=>`(lF (T:="tuple") 0e4 jO 0e4 0e4 nm.isinstance nm.tuple 8e8)|`(16e4)=>`(M++[.lst []])|`(16e5)=>`(X.env.scope)|`(16e6)=>`(R7 (F.run X.A X.stack s H ⟨us,[]⟩ (us++ds) (vs++dvs) Q E hr I.env0 (hb s us I.kIn hl) r2 h) fun r s' hq=>?_)|`(16e7)=>`(RN ?_)
local macro_rules|`(16e8)=>`(.ref D)|`(16e9)=>`(gq false)|`(17e0)=>`(lM (je (aj 6)) (gr (ay (dG .Gt) (ay cv (aj 4) 1e4) 9e6)))|`(17e1)=>`(w.map D.int)|`(17e2)=>`(.obj A)|`(17e3)=>`(if (w.params.followText "set-order")=true then _ else _)|`(17e4)=>`(show false=true from hs)|`(17e5)=>`(.Compare a [op] [b] pos)|`(17e6)=>`(ho pins s2 B H2 x y v u _ I2 r1 r2 q2)|`(17e7)=>`(Obj.putSet es1 t1)|`(17e8)=>`(.builtin "sorted")|`(17e9)=>`(ps.map mm)|`(18e0)=>`(.bool true)|`(18e1)=>`(I.ok.hd hc)|`(18e2)=>`(I.hok.fresh 7e5)|`(18e3)=>`(.ListComp elt gens scope pos)|`(18e4)=>`(.obj (M3++[O.lst L2]).length)|`(18e5)=>`(scope.names)|`(18e6)=>`(qS (envOfC qual scope s0.heap.objs.size f cdv::outer))|`(18e7)=>`(by simpa[PyData.canLay0] using cK h4)|`(18e8)=>`(ak 0)|`(18e9)=>`(.obj (Y.length+1+m))|`(19e0)=>`(.ref a)|`(19e1)=>`(compareOp op)
local macro_rules|`(19e2)=>`(.int (if j>i then j else i))|`(19e3)=>`(sy CX P w K mg base N qual scope f cdv A outer s H E)|`(19e4)=>`(sH CX P w K mg base N qual scope f cdv A outer s H E)|`(19e5)=>`(fun _ _=>rfl)|`(19e6)=>`(.Name x pos)|`(19e7)=>`(seqObj "list" (rs.map p9).toArray 0)|`(19e8)=>`(fun cl C s H fp=>(hg cl C s H fp).h)|`(19e9)=>`(fun cl C s H fp=>(ht cl C s H fp).h)|`(20e0)=>`(ay cv 2e3 0e9)|`(20e1)=>`(bN (N:=["ties", "front"]) (sc:=aw d4) (Nc:=["a", "b", "front"]) (cap:=[none,none,some 1]) rfl rfl 1e0)|`(20e2)=>`(ks.length-1)|`(20e3)=>`(fun z=>nomatch z)|`(20e4)=>`(gS (op:=.Lt) 4e5)|`(20e5)=>`(fun q=>0<=q/\q<m)|`(20e6)=>`(.int n)|`(20e7)=>`(SetTable.runEnd mask i+1-i)|`(20e8)=>`(seqObj "list" vs.toArray 0)|`(20e9)=>`((List.range j.toNat).map fun(i:Nat)=>V.int (i:Int))|`(21e0)=>`(aV (ak 2) (aV (ak 3) (cV)))|`(21e1)=>`(.fix ((List.range m).map fun p:Nat=>D.int (p:Int)))|`(21e2)=>`(.ref 24)|`(21e3)=>`(iA p ft)|`(21e4)=>`(dM (h pos pins s B H _ I hq) fun us s1 ⟨xs,H1,I1,r,z,q⟩=>⟨by rw[<- r.length];exact z,?_⟩)|`(21e5)=>`(fun b o hb e=>(sb.2 b hb).trans e)
local macro_rules|`(21e6)=>`(HT.sIx 4e2 4e2 hi-HT.sIx 4e2 0 lo)|`(21e7)=>`(fun vs H Q E h=>h.1.trans hn.symm)|`(21e8)=>`(.int (if k then 1 else 0))|`(21e9)=>`(some (.builtin "BaseException.__getattribute__"))|`(22e0)=>`((ps.map fun p=>(ns.getD p.1.toNat 0,ns.getD p.2.toNat 0)).map fun p=>[min p.1 p.2,max p.1 p.2])|`(22e1)=>`(dM (ha pos pins s B H _ I h) fun us s1 ⟨vs,H1,I1,r1,q1⟩=>hc pins s1 B H1 vs us Q I1 r1 q1)|`(22e2)=>`(pU p.nx g)|`(22e3)=>`(PE X e (tD p f))|`(22e4)=>`((m:Int)-1)|`(22e5)=>`(.Call (.Name x p) (e::es) [] pos)|`(22e6)=>`(.type "set")|`(22e7)=>`(seqObj "tuple" (bp ps).toArray 0)|`(22e8)=>`(.tup [.int a,.int b])|`(22e9)=>`(cQ H acc (.ext fun h=>cP p.w h acc (jG ps k r)))|`(23e0)=>`(qs.findIdx fun z=>PyData.eqv z q)|`(23e1)=>`(.str "tree")|`(23e2)=>`(gS (op:=.LtE) 4e5)|`(23e3)=>`(aJ 6e3 (aY))|`(23e4)=>`(some (r:Int))|`(23e5)=>`(L.map aq)|`(23e6)=>`(X.prog)|`(23e7)=>`(by simp;exact h7.mpr (fun x hx=>by obtain⟨k,_,rfl⟩:=Ub.mp hx;simp[aq];exact h7.mpr 0e6))|`(23e8)=>`(.ref l)|`(23e9)=>`(.obj n)
local macro_rules|`(24e0)=>`(aZ.mpr rfl)|`(24e1)=>`(ay cv 3e2 1e4)|`(24e2)=>`(ay cv 3e2 0e9)|`(24e3)=>`(seqObj "list" (bp qs).toArray 0)|`(24e4)=>`(aF 2)|`(24e5)=>`(.UnaryOp .Not a pos)|`(24e6)=>`((fun n s'=>∃i B' H',bb X pins B' H' s'/\tn i s'.heap/\(∀b∈fp,H' b=none)/\W i n B' H'))|`(24e7)=>`((e::es).length+([]:List Keyword).length+(if ([]:List Keyword).isEmpty then 0 else 1)<30)|`(24e8)=>`((Obj.mapSeq (·.push Value.none)))|`(24e9)=>`(tD p fa)|`(25e0)=>`(.lst (fs.map D.int))|`(25e1)=>`(L.flatten.map D.int)|`(25e2)=>`(lS Y m (N.set c (Dj (q:Int) (N.getD c []))) 13e7 G1)|`(25e3)=>`(hb pins s1 B H1 _ I1 q1)|`(25e4)=>`(show p∈([]:List 3e6) from hp)|`(25e5)=>`(p.getD (m-1) 0)|`(25e6)=>`(fun acc k=>if k∈acc then acc else acc++[k])|`(25e7)=>`(ag (aj 5) (aA))|`(25e8)=>`(ag (aj 4) (aA))|`(25e9)=>`(aJ (aF 5) (aY))|`(26e0)=>`(aJ (aF 4) (aY))|`(26e1)=>`(.int x)|`(26e2)=>`(w.map PyData.int)|`(26e3)=>`(ks.getD (i+1) [])
local macro_rules|`(26e4)=>`(F.b3 (by rfl) fun _ _ _ _ _ _ _ _ _=>by rfl)|`(26e5)=>`((ks.map aq).reverse++[.tup [.int 0,.int m]])|`(26e6)=>`(.obj (M1++[O.lst [.int m,.tup 0e5]]).length)|`(26e7)=>`(W.fnOf n n (fH st) (cW st) (aw st) .none .none .none (.str m t) none (.ref c) .none)|`(26e8)=>`(⟨_,_,_,t1,α',⟨hg,S.ex,rfl,T',hpl,by rw[hled];exact S.led,?_,hperm'⟩,hkeys,hnd⟩)|`(26e9)=>`(fq I q 0e6)|`(27e0)=>`(.type "list")|`(27e1)=>`(fun b ob q=>RQ _ q)|`(27e2)=>`(if _ then _ else _)|`(27e3)=>`(.Try body [.ExceptHandler (some (.Name r np)) (some n) (b0::suite) hpos] [] [] pos)|`(27e4)=>`(PI X tg iter (su p fi))|`(27e5)=>`(aT (bH (AN)))|`(27e6)=>`(kn (sy zy P w K mg base N qual (aw st) f cdv A outer s H E).nox (cW st) (iV p fb))|`(27e7)=>`(Builtin.Tuple.tupleItemsOf (.ref t) >>= _)|`(27e8)=>`(SG (name:=Str.ofString "__next__") hit.typeIs TL (SI TL hit.typeIs TM ?_ (TN _)))|`(27e9)=>`(typeOf (.ref x))|`(28e0)=>`(Kf ha hb I h fun v u s2 x y H2 I2 rx ry q=>ho pins s2 B H2 x y v u Q I2 rx ry q)|`(28e1)=>`(M++[.set acc])|`(28e2)=>`(Obj.mapSeq fun _=>#[])|`(28e3)=>`(aj 2)|`(28e4)=>`(ag (cC (.int 6)) (aA))|`(28e5)=>`(l.prog)|`(28e6)=>`(.int (if j<i then j else i))|`(28e7)=>`(fun x1 x2=>x1++x2)
local macro_rules|`(28e8)=>`(PE X ob (tD p fo))|`(28e9)=>`(fun x=>x.1.isSome)|`(29e0)=>`(fs.map PyData.int)|`(29e1)=>`(.Subscript e (.Slice lo hi none p2) pos)|`(29e2)=>`(ps.length)|`(29e3)=>`(dM (ha pos pins s B H _ I h) fun us s1 ⟨vs,H1,I1,r,q⟩=>⟨I1.kIn,?_⟩)|`(29e4)=>`(.builtin id)|`(29e5)=>`(t.probeStart h)|`(29e6)=>`(rv.mono X2)|`(29e7)=>`(.lst (ns'.map V.int))|`(29e8)=>`(cJ (cC 4e4))|`(29e9)=>`(kY 4e5)|`(30e0)=>`(aJ (aF 3) (aY))|`(30e1)=>`(by simpa using e)|`(30e2)=>`(I1.hok.fresh 7e5)|`(30e3)=>`(ps.zip us)|`(30e4)=>`(Str×Addr)|`(30e5)=>`(starEach [e] 2e1)|`(30e6)=>`(iI w)|`(30e7)=>`(Ri (Rg (Rf e) (I.ok.cab x c hfn hc)))|`(30e8)=>`((·.2))|`(30e9)=>`((false,eval b 2e1))|`(31e0)=>`(show eY 23e6 X.w H 3e0 a (.ext fun h=>cP X.w h a ps) from I.hok a _ ha)|`(31e1)=>`(show eY 23e6 X.w H 3e0 a (.ext fun h=>dY X.w h a ps) from I.hok a _ ha)
local macro_rules|`(31e2)=>`(.int k)|`(31e3)=>`(.obj k)|`(31e4)=>`(L.eraseIdx (L.findIdx fun z=>z == k))|`(31e5)=>`(k.toNat)|`(31e6)=>`(.type "tuple")|`(31e7)=>`(Str×NameKind)|`(31e8)=>`(SetTable.bits h%(mask+1))|`(31e9)=>`(pre.length+1+post.length)|`(32e0)=>`(Y1++[.lst []])|`(32e1)=>`(.str "number")|`(32e2)=>`(f q=none)|`(32e3)=>`(r.length)|`(32e4)=>`(by unfold kas_rev;rw[getElem?_mirror_all hs,Rc ⟨TJ _,by omega⟩])|`(32e5)=>`(.Call (.Name "list" pl) [.Call (.Name "range" pr) [a] [] p1] [] pos)|`(32e6)=>`(cC .non)|`(32e7)=>`(starEach [] 2e1)|`(32e8)=>`(jl (xl (lF (T:="tuple") 0e4 jO 0e4 0e4 nm.isinstance nm.tuple 2e6)))|`(32e9)=>`(lS Y m N acc G1)|`(33e0)=>`(.Subscript a b pos)|`(33e1)=>`((hashInt k,Value.int k tk))|`(33e2)=>`(PyData.depthAll xs)|`(33e3)=>`(.int v)|`(33e4)=>`(vs.toArray)|`(33e5)=>`(model P w)
local macro_rules|`(33e6)=>`((fun xs H Q=>(∃i,xs=[.int i]/\Q 15e8 H)\/∃k,xs=[.bl k]/\Q 21e8 H))|`(33e7)=>`(show false=true from fx)|`(33e8)=>`(show false=true from he)|`(33e9)=>`(fun ps p=>jG ps p.1 p.2)|`(34e0)=>`((aH.from x1 (aH.bind P1)).imp fun ρ' Y' H' Z' X' S' P' B' r'=>?_)|`(34e1)=>`(sv 0e8 ifs (iA p.nx tt))|`(34e2)=>`(bE a1 b1 c1)|`(34e3)=>`(M2.length)|`(34e4)=>`(.call (.ref fa) ⟨[.ref a],[]⟩)|`(34e5)=>`(TH (a:=Value.none) (by first|rfl|(dsimp[firstArgMember];rfl)) ?_)|`(34e6)=>`(items.toList)|`(34e7)=>`(fun _ _ e=>e)|`(34e8)=>`(.ref it)|`(34e9)=>`(.lst ys)|`(35e0)=>`(Option Value)|`(35e1)=>`(.Name x pos1)|`(35e2)=>`(by simpa using hh)|`(35e3)=>`(.fresh 0 0 (nG w))|`(35e4)=>`(RV p Q)|`(35e5)=>`(gq true)|`(35e6)=>`(aW d__law_draw 1e5 (aJ 24e4 6e7))|`(35e7)=>`(.tup 4e7)|`(35e8)=>`(aV 18e8 (aV (ak 1) cV))|`(35e9)=>`(.obj (M++[O.set (cA ks)]).length)
local macro_rules|`(36e0)=>`(.tup [.int M,.tup 0e5])|`(36e1)=>`(fun a b h=>(hZ hk h).2)|`(36e2)=>`(l1.map D.int)|`(36e3)=>`((ks++[[min u x,max u x]]).map aq)|`(36e4)=>`(ks.getD i [])|`(36e5)=>`(jE X Nc scope cl 14e1 s3 6e1 fp)|`(36e6)=>`(.Assign [.Name x pos1] 3e4 pos2)|`(36e7)=>`(fun _ _ _ _ _=>bQ (aJ (aW d__law_draw 1e5 (aJ 8e8 5e6)) 5e6))|`(36e8)=>`(ay (dG CmpOp.Lt) (ay cv 3e2 (ay dN 2e3 (cC (D.int 1)))) 16e2)|`(36e9)=>`(s.toks)|`(37e0)=>`(.bl b)|`(37e1)=>`(RX _ (RX _ (lu hb e)))|`(37e2)=>`(pyNext (.ref I) >>= _)|`(37e3)=>`(⟨rfl,h',tk',rfl,by rw[RE]at hS';exact hS',fun b o hb e=>?_⟩)|`(37e4)=>`(List.replicate m .non)|`(37e5)=>`(((rg m).map f).map oI)|`(37e6)=>`(fun _ _ _ _ _=>lZ (cn 29e9 (aW d__law_draw 1e5 (aJ 8e8 6e7)) (bA)))|`(37e7)=>`(Bool×Bool)|`(37e8)=>`(B.set i (some v))|`(37e9)=>`(by simpa using q)|`(38e0)=>`(bindL (envOfC qual scope 0e3 f cd).kindOf 30e3 fun _=>none)|`(38e1)=>`(bindC (envOfC qual scope 0e3 f cd).kindOf 30e3 fun _=>none)|`(38e2)=>`(show b∈([]:List Addr) from z)|`(38e3)=>`(fun C acc s' H' I' hf hn q=>?_)
local macro_rules|`(38e4)=>`((fun rest r s'=>r.1=none/\s'=s/\∀v∈rest,∃i t,v=.int i t))|`(38e5)=>`(seqObj "list" (((eW w a ep es).take i).map 30e8).toArray n)|`(38e6)=>`(iA p.nx t)|`(38e7)=>`(iW n N.length fb)|`(38e8)=>`(dG .Lt)|`(38e9)=>`(ag 2e3 8e7)|`(39e0)=>`(bB jJ nm.len 5e6)|`(39e1)=>`(aJ 2e6 4e0)|`(39e2)=>`(bB jJ nm.len 4e0)|`(39e3)=>`(cn 29e9 8e8 (bA))|`(39e4)=>`(bu (p+1) ((m:Int)-(p+1)).toNat)|`(39e5)=>`(.inr (.inr (.inl ⟨_,rfl⟩)))|`(39e6)=>`(.inr (.inr (.inr (.inr 13e6))))|`(39e7)=>`(some ((r:Int)+1))|`(39e8)=>`(lS Y m N 13e7 G1)|`(39e9)=>`(cB.of 0e2)|`(40e0)=>`(binaryOp .Add)|`(40e1)=>`(p.1.map V.int)|`(40e2)=>`(PA X [e] 14e8)|`(40e3)=>`(D.int (m:Int))|`(40e4)=>`(Rg (Rf e) I.ok.above)|`(40e5)=>`(fun _=>none)|`(40e6)=>`(.ref acc)|`(40e7)=>`(t.advance p)
local macro_rules|`(40e8)=>`(Y++[.lst ((qU ns).map D.int)])|`(40e9)=>`(.Slice none none (some st) p2)|`(41e0)=>`(cC (.int 3))|`(41e1)=>`(l.map D.int)|`(41e2)=>`(ps++[(x,p)])|`(41e3)=>`(.obj (kR p Y).length)|`(41e4)=>`(X.env.locals)|`(41e5)=>`(RH (m:=Builtin.Tuple.tupleExact _) (SN (RN 13e0) htake))|`(41e6)=>`(.str x)|`(41e7)=>`(.BoolOp .Or (a::b::rest) pos)|`(41e8)=>`(.Tuple es k pos)|`(41e9)=>`(.Assign [.Name x pos'] e pos)|`(42e0)=>`(by rw[R0];omega)|`(42e1)=>`(.Raise (some (.Call (.Name c np) [] [] cpos)) none pos)|`(42e2)=>`(.inl (by rw[bF (uL q h (by intro z;cases z))];exact q))|`(42e3)=>`(aF 3)|`(42e4)=>`(by refine⟨by omega,by omega,?_⟩;dsimp[Ts,T5];omega)|`(42e5)=>`(.int u)|`(42e6)=>`(Y++[O.lst [.tup [.int u,.int v],.tup [.int v,.int u]]])|`(42e7)=>`(.int a)|`(42e8)=>`(show qs.length<1000 by omega)|`(42e9)=>`(⟨r.toNat,by omega⟩)|`(43e0)=>`(.tup [.int (m:Int),.tup 0e5])|`(43e1)=>`(he pins s B H _ I h)
local macro_rules|`(43e2)=>`(.Tuple elts k1 tpos)|`(43e3)=>`(SetTable.turns mask)|`(43e4)=>`(gr (ay 16e9 (aE aM (ag 3e2 (ag (cC 31e2) (aA)))) 1e4))|`(43e5)=>`(by rw[Sn];exact Rg (show acc.length<1000 by omega) bc)|`(43e6)=>`(.obj (Y.length+1+c))|`(43e7)=>`(dM (hc pins s B H _ I h) fun d s1 ⟨H1,I1,q1⟩=>?_)|`(43e8)=>`(.Name x pos')|`(43e9)=>`(⟨.int 4e2,H,I.tok _,⟨_,by dsimp[R0];rw[hlen]⟩,q⟩)|`(44e0)=>`(.type T)|`(44e1)=>`(sIx 3e8 3e8 hi-sIx 3e8 0 lo)|`(44e2)=>`(X.tri pins E)|`(44e3)=>`(tD p fb)|`(44e4)=>`(⟨e,fun w hw=>sY ru fy r fs w (by simpa using hw),?_⟩)|`(44e5)=>`(aj 3)|`(44e6)=>`(Y.set i 14e3)|`(44e7)=>`(Y++[.lst []])|`(44e8)=>`(PySem.Challenge.rw_rootwebs_k33_trees_and_words.row.prog)|`(44e9)=>`(s0.heap.objs.size)|`(45e0)=>`(Builtin.Slice.sliceApplied (.ref sl) (pure (n:Int)))|`(45e1)=>`(eA w α i)|`(45e2)=>`(hashInt k)|`(45e3)=>`(some 10e7)|`(45e4)=>`(.ListComp elt (⟨tg,iter,ifs,0⟩::rest) scope pos)|`(45e5)=>`(cQ H acc (.ext fun h=>cP p.w h acc (jG ps [a,b] r)))
local macro_rules|`(45e6)=>`(ks.map fk)|`(45e7)=>`(.Subscript o i pos)|`(45e8)=>`(by dsimp[R0];omega)|`(45e9)=>`(x.above y c (Se h))|`(46e0)=>`(getItem (.ref t) (.ref sl))|`(46e1)=>`(RH (m:=Builtin.Tuple.tupleExact _) (SN 13e0 htake))|`(46e2)=>`(fun _=>.lst [])|`(46e3)=>`(show ¬ ((Value.ref t == Value.none)=true) from RL)|`(46e4)=>`(cQ H 0e3 (.tup [.int i,x]))|`(46e5)=>`((owner.setIfInBounds j (some hs0.length),hs0.length+1))|`(46e6)=>`(Obj.putSet 15e2 t2)|`(46e7)=>`(call 22e6 [.ref l])|`(46e8)=>`(g.lt 0e0)|`(46e9)=>`(fun i j hij hj=>?_)|`(47e0)=>`(cQ H' ea (xA ea C))|`(47e1)=>`(e.trans e')|`(47e2)=>`(.obj 6e9)|`(47e3)=>`((cN ks).map aq)|`(47e4)=>`((aH.bind P2).imp fun z Y3 H3 Z3 X3 S3 P3 w rw'=>?_)|`(47e5)=>`(DQ fun _ _ _ _=>ax.mpr rfl)|`(47e6)=>`(.int 1)|`(47e7)=>`(.SetComp elt (⟨tg,iter,ifs,0⟩::rest) scope pos)|`(47e8)=>`(eT "tuple")|`(47e9)=>`(aJ (bB A0 nm.min 5e6) (aJ (bB D0 nm.max 5e6) (aY)))
local macro_rules|`(48e0)=>`(bB gv nm.tuple 7e1)|`(48e1)=>`(fun _ _ _ _ _=>bQ (aJ 2e6 (aJ (cw 2e6 (bA)) (aY))))|`(48e2)=>`(mS ks)|`(48e3)=>`(ps2.map bS)|`(48e4)=>`(.int ((0:Nat):Int))|`(48e5)=>`(left.map D.int)|`(48e6)=>`(M1.length)|`(48e7)=>`(fun x y H Q=>y=.non/\Q (.bl (!decide (x=.non))) H)|`(48e8)=>`(R7 loop fun r s' ⟨h1,h2⟩=>⟨⟨_,h1⟩,h2⟩)|`(48e9)=>`(if (Value.ref t == Value.none)=true then _ else _)|`(49e0)=>`((fun ρ' _ H' Z'=>∀B',dH p.K H' Z' ρ' B'->Q B' H'))|`(49e1)=>`(I.base.keep b o e n hb hx)|`(49e2)=>`(.BoolOp .Or (b::rest) pos)|`(49e3)=>`(fun b o hb e=>eb b o hb e)|`(49e4)=>`(fun x y H Q=>y=.non/\Q (.bl (decide (x=.non))) H)|`(49e5)=>`(by with_unfolding_all rfl)|`(49e6)=>`(fun f vs=>PySem.call f vs)|`(49e7)=>`(fun cl C s H fp acc=>sX rfl rfl (he cl C s H fp))|`(49e8)=>`(cQ H acc (.lst (ys++[v])))|`(49e9)=>`(PE X 7e8 (tD p (aE F fr)))|`(50e0)=>`(gY (nq (eT "int") 2e3) (xP (nq (eT "bool") 2e3)))|`(50e1)=>`(aT (r8 k_NoTree o_NoTree))|`(50e2)=>`(by simpa using h1)|`(50e3)=>`(by simpa using h2)
local macro_rules|`(50e4)=>`(fun b o e=>RQ _ e)|`(50e5)=>`(Rt _ hx)|`(50e6)=>`(by dsimp[Ru,TK,TV,TX,not_or];exact⟨hb1,hb2⟩)|`(50e7)=>`(iV p fs)|`(50e8)=>`(PA X (a::es) 14e8)|`(50e9)=>`(eval ob 2e1)|`(51e0)=>`(fun x=>!x.1)|`(51e1)=>`(M++[.set (cA ks)])|`(51e2)=>`(bE a2 b2 c2)|`(51e3)=>`(Y++[.lst a])|`(51e4)=>`(.For tg iter body [] pos)|`(51e5)=>`(compareOp op')|`(51e6)=>`(.ref p)|`(51e7)=>`(.Call (.Attribute o name apos) (e::es) [] cpos)|`(51e8)=>`(.compLoop e d it acc env)|`(51e9)=>`(aN.mpr ⟨q,us,rfl,fS.of cf,rr.mono (bW hq)⟩)|`(52e0)=>`(.ref a_NoTree)|`(52e1)=>`(aW d__law_bent 1e5 (aJ (aF 7) (aJ (aF 8) 7e1)))|`(52e2)=>`(.int M)|`(52e3)=>`(l2'.map D.int)|`(52e4)=>`(.int w)|`(52e5)=>`(.lst (fQ m f))|`(52e6)=>`(ws.take r++ws.drop (r+1))|`(52e7)=>`((fun xs H Q=>∃i j,xs=[.int i,.int j]/\Q 19e2 H))
local macro_rules|`(52e8)=>`((fun xs H Q=>∃i j,xs=[.int i,.int j]/\Q 28e6 H))|`(52e9)=>`(by show scope.names.lookup y≠_;rw[k];decide)|`(53e0)=>`(U9 (RN ⟨US _ 1e0,UM entry_list_iadd' ?_⟩))|`(53e1)=>`(.Call (.Attribute ob "count" apos) [e] [] pos)|`(53e2)=>`((Y++[O.lst 4e1]++[O.lst 0e5])++[.set (cA ks)])|`(53e3)=>`(rv.length)|`(53e4)=>`(by rw[I.ok.glob];exact I.mod.glob.keeps I.bk)|`(53e5)=>`((fun _ s'=>∃B' H',bb X pins B' H' s'/\Q B' H'))|`(53e6)=>`((l+r) / 2)|`(53e7)=>`(.ext fun h=>cP w h a ps)|`(53e8)=>`(.ext fun h=>dY w h a ps)|`(53e9)=>`(cQ H q (.lst vs))|`(54e0)=>`(.Name "range" px)|`(54e1)=>`(acc++[x])|`(54e2)=>`(gS (op:=.Gt) 4e5)|`(54e3)=>`(.int (1+(i:Int)))|`(54e4)=>`(.fix (fW 0 17e1))|`(54e5)=>`(.str "law_rootwebs_k33_trees_and_words" 492)|`(54e6)=>`(fun cl C s H fp acc=>(hb cl C s H fp acc).h)|`(54e7)=>`(I.base.free b o e n hx)|`(54e8)=>`(fun z=>hc (by simp[z]))|`(54e9)=>`(start N vs)|`(55e0)=>`(some i)|`(55e1)=>`(by dsimp[R0] <;> omega)
local macro_rules|`(55e2)=>`(ps.map 3e3)|`(55e3)=>`(⟨rfl,by omega⟩)|`(55e4)=>`(p.getD m 0)|`(55e5)=>`(bT.mpr rfl)|`(55e6)=>`(bC.mpr rfl)|`(55e7)=>`(.int (qs.countP fun z=>PyData.eqv z q:Nat))|`(55e8)=>`(Obj.mapSeq fun xs=>xs.eraseIdxIfInBounds j)|`(55e9)=>`(ag 32e6 (aA))|`(56e0)=>`(ag 20e0 (aA))|`(56e1)=>`(ag 11e1 (aA))|`(56e2)=>`(sx 4e5)|`(56e3)=>`(aJ (iY 24e4 (bA)) (aY))|`(56e4)=>`(.tup [.int k,.tup 0e5])|`(56e5)=>`(cN 17e9)|`(56e6)=>`(M++[O.lst a])|`(56e7)=>`(xs.map D.int)|`(56e8)=>`(HT.sIx 4e2 0 lo)|`(56e9)=>`(Nat×Int×Value)|`(57e0)=>`(fun i j=>decide (ns.getD i 0<ns.getD j 0))|`(57e1)=>`(TU (show s.heap.IsTuple a 2e7 from pl) ?_)|`(57e2)=>`(fun i j=>decide (ns.getD i 0>ns.getD j 0))|`(57e3)=>`(subs.contains c)|`(57e4)=>`(ay cv 28e3 44e5)|`(57e5)=>`(.obj (Y++[O.lst 4e1]++[O.lst 0e5]).length)
local macro_rules|`(57e6)=>`((0:Int)+(k:Int))|`(57e7)=>`(fun b z=>absurd z 0e6)|`(57e8)=>`(fun h' c' kp e=>fin its r' hz h' c' kp e)|`(57e9)=>`(.builtin "isinstance")|`(58e0)=>`(fun b ob e=>hk b ob e)|`(58e1)=>`(PE X 12e1 (tD p (nq (nV subs known) fa)))|`(58e2)=>`(gr (ay 35e5 (aE jq 8e7) (ay dN 2e3 9e6)))|`(58e3)=>`(bx (aE eE (ag 3e2 (ag 9e6 (aA)))) (ak 1))|`(58e4)=>`(xn 2e3 (zp) (ix 44e5))|`(58e5)=>`(rK 2e6 (g9) (fE 42e3))|`(58e6)=>`((ns.filter fun q=>decide 32e2).map D.int)|`(58e7)=>`(s₁.heap)|`(58e8)=>`(rr.length)|`(58e9)=>`(dM (ha pins s B H Q I h) fun c s1 e=>?_)|`(59e0)=>`(dM 9e2 fun v s1 ⟨x,H1,I1,r1,q1⟩=>?_)|`(59e1)=>`(weight_type_call_type "set" [.ref l] [])|`(59e2)=>`(.Call (.Name "enumerate" px) [a] [] pos)|`(59e3)=>`(.bl (if neg then !a.isNon else a.isNon))|`(59e4)=>`(cQ H l (.ext fun h=>cP p.w h l (gE qs)))|`(59e5)=>`(aU.mpr ⟨l,rfl,by rw[<- S.len];simp⟩)|`(59e6)=>`(cQ H1 acc (.ext fun h=>cP p.w h acc []))|`(59e7)=>`(⟨by omega,bm⟩)|`(59e8)=>`(X.stack)|`(59e9)=>`(.Return (some e) pos)
local macro_rules|`(60e0)=>`(.While c body [] pos)|`(60e1)=>`(binaryOp .Mult)|`(60e2)=>`(A.deeper (envOfC qual scope 0e3 f cdv))|`(60e3)=>`(aw st)|`(60e4)=>`(RR _ rfl)|`(60e5)=>`(s.heap.objs.size + 1)|`(60e6)=>`(by rfl)|`(60e7)=>`(some hs.length)|`(60e8)=>`(ret Value.none)|`(60e9)=>`(fun b o hb e=>hm.heap b o (hle b hb) e)|`(61e0)=>`(bW hq)|`(61e1)=>`(src.items.drop (i+1))|`(61e2)=>`(xm p.nx fb acc)|`(61e3)=>`(aq [a,b])|`(61e4)=>`(PT X a 21e3)|`(61e5)=>`(PG 0e8 tg 22e2)|`(61e6)=>`(cU 2 6e5)|`(61e7)=>`(D.tup [D.int m,D.tup (List.map bS ps)])|`(61e8)=>`(.tup [.int m,.tup ((JZ m T k).map aq)])|`(61e9)=>`(.int ((n+1:Nat):Int))|`(62e0)=>`(tS Y left ps G)|`(62e1)=>`(X.base)|`(62e2)=>`(nZ I hg hm boot_range (RU 9e7 hs rfl))|`(62e3)=>`(wpAny_setEpoch_of S.ho S.hd S.fits ?_)
local macro_rules|`(62e4)=>`(k B H Q q)|`(62e5)=>`(⟨.int 29e2,H,?_,⟨_,by rw[hsz]⟩,q⟩)|`(62e6)=>`(.tup (List.replicate 31e5 xs).flatten)|`(62e7)=>`(.obj 34e3)|`(62e8)=>`(bu 1 20e2)|`(62e9)=>`(cq 0 22e4)|`(63e0)=>`(gR m ks)|`(63e1)=>`(.lst 23e5)|`(63e2)=>`(SF ht.typeIs 0e4 ?_)|`(63e3)=>`(tupleItemsOf_ ht ?_)|`(63e4)=>`(fun v _=>v=.bl true)|`(63e5)=>`(s1.heap.objs.size+1)|`(63e6)=>`(.bool (lW 10e2 eks))|`(63e7)=>`(.Compare a [op,op',op''] [b,c,d] pos)|`(63e8)=>`(.str (if b then "True" else "False"))|`(63e9)=>`(ag (aE rL 5e5) (ag (aE xp 5e5) (aA)))|`(64e0)=>`(ak 4)|`(64e1)=>`(bx (fD (aA)) (ak 3))|`(64e2)=>`(aE aM (ag 2e3 28e4))|`(64e3)=>`(ix (ay bG 44e5 0e9))|`(64e4)=>`(fun r=>D.tup [.int (r.1:Nat),bS r.2])|`(64e5)=>`(fun b ps e=>⟨#[],by rw[e];simp⟩)|`(64e6)=>`(TP X pins B Q)|`(64e7)=>`(g i j)
local macro_rules|`(64e8)=>`(.tup (xs++ys))|`(64e9)=>`(.empty j none)|`(65e0)=>`(fun h' k e=>⟨mD e,fun p hp=>?_⟩)|`(65e1)=>`(kas_rev p 0 m)|`(65e2)=>`((bp ps).toArray.zip (bp ps).toArray)|`(65e3)=>`(fun cl C s H fp=>(he cl C s H fp).h)|`(65e4)=>`((fun ρ=>∃o1 o2,ρ=[o1,o2,some 35e7]))|`(65e5)=>`((ks.take rn++ks.drop (rn+1)).map aq)|`(65e6)=>`(Y++[.lst (ks.map fun _=>D.bl true)])|`(65e7)=>`(ay (dG .Gt) (aE jq (ag 3e2 aA)) 0e9)|`(65e8)=>`(show cO (.own t xs) 28e1 from aI ht)|`(65e9)=>`(xs.length+2=m)|`(66e0)=>`(.int (mn:Int))|`(66e1)=>`(dM 9e2 fun c s1 ⟨H1,I1,q1⟩=>?_)|`(66e2)=>`(.Assign [tg] e pos)|`(66e3)=>`(.Call (.Name "range" p) [a] [] pos)|`(66e4)=>`(fun x y H Q=>r x y H Q\/r' x y H Q)|`(66e5)=>`(.ref r)|`(66e6)=>`(.ret .none)|`(66e7)=>`(next k%left.length)|`(66e8)=>`(call 17e8 [.ref a])|`(66e9)=>`(ay o fa fb)|`(67e0)=>`(tD p f)|`(67e1)=>`(aU.mpr ⟨acc,rfl,X'.pre _ _ hn⟩)
local macro_rules|`(67e2)=>`(.bool (lW 9e8 eks))|`(67e3)=>`(S.tuple hq)|`(67e4)=>`(cQ H l (.ext fun h=>dY p.w h l ps))|`(67e5)=>`(.int j)|`(67e6)=>`(.int 0)|`(67e7)=>`(.SetComp elt (cl0::rest) scope pos)|`(67e8)=>`(ag 3e2 5e5)|`(67e9)=>`(.obj F)|`(68e0)=>`(ps1.map bS)|`(68e1)=>`(fun a b=>pV a<pV b)|`(68e2)=>`(ks.getD ((1+(i:Int)-1).toNat+1) [])|`(68e3)=>`(.int 2)|`(68e4)=>`(aI (aI av))|`(68e5)=>`(Rm (List.length_eraseIdx_le ..) hl)|`(68e6)=>`(kS p Y++[O.lst sF])|`(68e7)=>`(fun e' s''=>CX outer H s E e' s'')|`(68e8)=>`(.ok (.ret (.bool (lW 10e2 eks'))))|`(68e9)=>`(aE d9 (ag (aj 7) (ag (aj 8) 9e5)))|`(69e0)=>`(s'.heap)|`(69e1)=>`(hm b _ q fun z=>z)|`(69e2)=>`(neC b o e hx)|`(69e3)=>`(fun b hb=>?_)|`(69e4)=>`(show s.heap.IsTuple a 2e7 from p)|`(69e5)=>`(.lst (xs.set j v))
local macro_rules|`(69e6)=>`(by simpa using e2)|`(69e7)=>`(by size_fits)|`(69e8)=>`(show h.IsTupleIter it a i from x)|`(69e9)=>`(Nat.mod_lt _ (Nat.succ_pos mask))|`(70e0)=>`(hsh k)|`(70e1)=>`(seqObj "list" (bp out).toArray n)|`(70e2)=>`(by simpa using hp)|`(70e3)=>`(ρ.set i (some d))|`(70e4)=>`(su p fi)|`(70e5)=>`(.ok (.ret (.bool (lW 9e8 eks'))))|`(70e6)=>`(.int 4e2)|`(70e7)=>`(by rw[<- rr.ints];exact gW.of h1)|`(70e8)=>`(lh o1 o2 fa fb fc)|`(70e9)=>`(tD p fc)|`(71e0)=>`(fun a=>.ext fun h=>cP X.w h a [])|`(71e1)=>`(dG .LtE)|`(71e2)=>`(ak 2)|`(71e3)=>`(ag 44e5 (aA))|`(71e4)=>`(ag 2e3 (ag (ay bG 2e3 0e9) (aA)))|`(71e5)=>`(aJ (BF) (aY))|`(71e6)=>`(bP 24e4 42e3)|`(71e7)=>`(fE (cw 42e3 (bA)))|`(71e8)=>`((M++[.set (cA ks)])++[.lst 47e3])|`(71e9)=>`(ko T p f)
local macro_rules|`(72e0)=>`(bs.map D.obj)|`(72e1)=>`(by simpa using hl)|`(72e2)=>`(r.foldl min c∈k)|`(72e3)=>`(nW acc [min p.1 p.2,max p.1 p.2])|`(72e4)=>`(tS Y left 41e2 G1)|`(72e5)=>`(⟨H,I.tok _,by rw[tM r];exact q⟩)|`(72e6)=>`(fun _ s''=>CX outer H s E e s'')|`(72e7)=>`(binaryOp .Add (.ref t) (.ref b))|`(72e8)=>`(show h.IsListIter it a i from x)|`(72e9)=>`(⟨hn0,by simp,fun x hx y hy=>?_⟩)|`(73e0)=>`(UV (UM entry_proto_collect' ?_))|`(73e1)=>`(fun i v=>its.toArray[i]?=some v)|`(73e2)=>`(sD (cn 56e2 39e2 (iY 2e6 (bA))))|`(73e3)=>`(⟨by decide,by decide,by decide⟩)|`(73e4)=>`(.ref x)|`(73e5)=>`(Rf e)|`(73e6)=>`(e1.trans e2.symm)|`(73e7)=>`(.IfExp c a b pos)|`(73e8)=>`(TJ _)|`(73e9)=>`(Builtin.SmallTypes.nextOf 34e8)|`(74e0)=>`((es1[·]?))|`(74e1)=>`(fun i v hv=>by rw[Tg];exact hv)|`(74e2)=>`(args_list_sort _)|`(74e3)=>`(.int k tk)
local macro_rules|`(74e4)=>`(⟨x,by rw[bF (cL q h)];exact q⟩)|`(74e5)=>`(src.items.drop i)|`(74e6)=>`(dr cap ρ)|`(74e7)=>`(tD p.nx e)|`(74e8)=>`(S.put hx a1 h1 q)|`(74e9)=>`(by rw[R0,<- r.length];exact hz)|`(75e0)=>`(.exc c)|`(75e1)=>`(fR 3e2)|`(75e2)=>`(aE jq 5e5)|`(75e3)=>`(aj 4)|`(75e4)=>`(aF 4)|`(75e5)=>`(qc nm.range 23e3)|`(75e6)=>`(D.obj 8e5)|`(75e7)=>`(.int q)|`(75e8)=>`(bu 1 (m-1).toNat)|`(75e9)=>`(.tup ((ks.map aq).drop (rn+1)))|`(76e0)=>`(ks.getD (1+(i:Int)-1).toNat [])|`(76e1)=>`((c::r).map D.int)|`(76e2)=>`(.obj (tS Y [a,b] ps2 G).length)|`(76e3)=>`(.int ((m:Int)-2))|`(76e4)=>`(if p then "number" else "tree")|`(76e5)=>`(ws.take r++[od]++ws.drop (r+1))|`(76e6)=>`(.tup (ws.take r))|`(76e7)=>`(.obj P)
local macro_rules|`(76e8)=>`(es.toList)|`(76e9)=>`(its.toList)|`(77e0)=>`(ns.length)|`(77e1)=>`(α.length)|`(77e2)=>`(hI.length)|`(77e3)=>`(M5.length)
set_option hygiene true
local macro_rules|`(tactic|dsimp[$x,*]$[$l]?)=>`(tactic|simp only[$x,*]$[$l]?)
noncomputable section
abbrev Q7:=@Option.some.inj
abbrev Q8:=@PySem.Value.isInt_shape
abbrev Q9:=@decide_eq_false
abbrev Ra:=@beq_eq_false_iff_ne
abbrev Rb:=@PySem.wpAny_eqBool_int
abbrev Rc:=@if_pos
abbrev Re:=@if_neg
abbrev Rf:=@PySem.Heap.lt_size
abbrev Rg:=@Nat.lt_of_lt_of_le
abbrev Rh:=@Nat.lt_irrefl
abbrev Ri:=@Nat.ne_of_lt
abbrev Rj:=@List.mem_filter
abbrev Rk:=@List.mem_range
abbrev Rm:=@Nat.le_trans
abbrev Rn:=@Nat.le_of_lt
abbrev Rp:=@List.filterMap_cons
abbrev Rq:=@List.mem_cons_self
abbrev Rt:=@List.mem_cons_of_mem
abbrev Ru:=@List.mem_cons
abbrev Rv:=@Ne.symm
abbrev Rw:=@List.mem_append
abbrev Rx:=@List.mem_append_left
abbrev Ry:=@List.getElem?_eq_some_iff
abbrev Rz:=@List.getElem_inj
abbrev RA:=@List.getElem?_set_self
abbrev RB:=@List.getElem?_set_ne
abbrev RC:=@PySem.wpAny_mono
abbrev RD:=@PySem.wpAny_truthy_bool
abbrev RE:=@Array.length_toList
abbrev RF:=@congrArg
abbrev RG:=@PySem.wpAny_execs_nil
abbrev RH:=@PySem.wpAny_bind
abbrev RI:=@PySem.wpAny_holding
abbrev RJ:=@PySem.wpAny_standAt
abbrev RK:=@PySem.wpAny_passesOwn
abbrev RL:=@Bool.false_ne_true
abbrev RM:=@Nat.ne_of_gt
abbrev RN:=@PySem.wpAny_pure
abbrev RO:=@PySem.wpAny_load
abbrev RP:=@Bool.false_and
abbrev RQ:=@PySem.Heap.get?_push_of_some
abbrev RR:=@PySem.Heap.get?_push_size
abbrev RT:=@Nat.le_refl
abbrev RU:=@PyProof.Rows.callWith_type1
abbrev RW:=@List.mem_filterMap
abbrev RX:=@List.mem_append_right
abbrev RY:=@Bool.eq_iff_iff
abbrev RZ:=@PySem.sizeLine_eq
abbrev R0:=@List.size_toArray
abbrev R6:=@List.append_nil
abbrev R7:=@PySem.codeAny_mono
abbrev R8:=@PySem.wpAny_Call_Name_kw
abbrev R9:=@List.nodup_cons
abbrev Sa:=@List.of_mem_zip
abbrev Sb:=@Option.isSome_iff_exists
abbrev Sd:=@List.length_take
abbrev Se:=@PySem.mem_of_lookup
abbrev Sf:=@List.getElem?_append_right
abbrev Sg:=@List.getElem?_replicate
abbrev Sh:=@List.getElem?_append_left
abbrev Si:=@List.getElem?_map
abbrev Sj:=@List.getElem?_take_of_lt
abbrev Sk:=@List.mem_of_getElem?
abbrev Sl:=@List.length_append
abbrev Sn:=@List.length_map
abbrev So:=@List.length_replicate
abbrev Sr:=@PySem.noFill_tuple_add
abbrev Ss:=@PySem.F.slot_tuple_add
abbrev Su:=@PySem.F.entry_tuple_add
abbrev Sv:=@PySem.F.args_tuple_add_2
abbrev Sw:=@Int.toNat_natCast
abbrev Sx:=@Nat.min_le_right
abbrev Sy:=@if_false
abbrev SA:=@if_true
abbrev SB:=@PyProof.Rows.slicePart_none
abbrev SC:=@PySem.wpAny_field
abbrev SD:=@List.filterMap_map
abbrev SE:=@List.length_drop
abbrev SF:=@PySem.wpAny_sequenceKey
abbrev SG:=@PySem.wpAny_callSpecial?_slot
abbrev SH:=@PyProof.Rows.slot_tuple_getitem
abbrev SI:=@PySem.wpAny_call_entry
abbrev SJ:=@PyProof.Rows.entry_tuple_getitem
abbrev SK:=@PyProof.Rows.args_tuple_getitem
abbrev SL:=@PySem.wpAny_typeOf
abbrev SM:=@Bool.and_eq_true
abbrev SN:=@PySem.wpAny_newObj_type
abbrev SQ:=@List.map_nil
abbrev SR:=@List.map_cons
abbrev SS:=@PySem.Heap.IsSliceOf.new
abbrev SU:=@PyProof.Rows.IsTup.new
abbrev SV:=@PySem.slot_list_getitem
abbrev SW:=@PySem.Heap.get?_update_self
abbrev SX:=@List.length_set
abbrev SY:=@List.all_cons
abbrev SZ:=@PySem.typeIs_int
abbrev S8:=@List.reverse_cons
abbrev S9:=@List.replicate_succ
abbrev Ta:=@List.flatten_cons
abbrev Tb:=@Nat.le_succ
abbrev Tc:=@List.append_assoc
abbrev Td:=@List.foldl_cons
abbrev Te:=@PySem.call_meets
abbrev Tf:=@List.length_singleton
abbrev Tg:=@Array.getElem?_toList
abbrev Th:=@List.eraseIdxIfInBounds_toArray
abbrev Ti:=@List.nil_append
abbrev Tj:=@PySem.F.slot_int_rmul
abbrev Tn:=@decide_eq_true
abbrev To:=@Nat.le_of_eq
abbrev Tp:=@List.lookup_cons
abbrev Tq:=@beq_self_eq_true
abbrev Tr:=@Bool.false_eq_true
abbrev Ts:=@List.length_cons
abbrev Tt:=@Nat.lt_succ_self
abbrev Tu:=@Nat.lt_succ_of_lt
abbrev Tv:=@PySem.Heap.size_push
abbrev Tw:=@PySem.pushCells_keeps
abbrev Tx:=@Option.bind_some
abbrev TB:=@PySem.codeAny_of_tree
abbrev TC:=@PySem.wpAny_askSetting
abbrev TF:=@PySem.wpAny_rule
abbrev TH:=@PySem.wpAny_of_eq
abbrev TJ:=@Nat.zero_le
abbrev TK:=@List.mem_singleton
abbrev TL:=@PySem.F.slot_tuple_iterator_next
abbrev TM:=@PySem.F.entry_tuple_iterator_next
abbrev TN:=@PySem.F.args_tuple_iterator_next_1
abbrev TQ:=@PySem.wpAny_seqItems
abbrev TR:=@PySem.Heap.SameBut.update
abbrev TU:=@PySem.wpAny_pyIter_tuple
abbrev TV:=@List.not_mem_nil
abbrev TX:=@or_false
abbrev TY:=@PySem.Heap.get?_push_ne
abbrev TZ:=@List.range_succ_eq_map
abbrev T1:=@List.map_map
abbrev T3:=@List.map_congr_left
abbrev T4:=@List.length_range
abbrev T5:=@List.length_nil
abbrev T6:=@List.cons.inj
abbrev T7:=@List.cons_append
abbrev T8:=@List.pairwise_iff_getElem
abbrev T9:=@Array.getElem?_eq_some_iff
abbrev Ua:=@List.take_of_length_le
abbrev Ub:=@List.mem_map
abbrev Uc:=@Classical.byContradiction
abbrev Ud:=@List.nodup_range
abbrev Ue:=@List.getElem?_of_mem
abbrev Ug:=@List.mem_map_of_mem
abbrev Uh:=@List.take_append_drop
abbrev Ui:=@List.pairwise_cons
abbrev Uj:=@List.map_append
abbrev Uk:=@List.map_take
abbrev Ul:=@List.map_drop
abbrev Um:=@Array.getD_eq_getD_getElem?
abbrev Uo:=@Option.getD_some
abbrev Uq:=@List.getElem?_drop
abbrev Ur:=@List.mem_of_mem_take
abbrev Us:=@List.mem_of_mem_drop
abbrev Ut:=@Array.getElem?_eq_none_iff
abbrev Uu:=@List.nodup_nil
abbrev Uv:=@Nat.sub_self
abbrev Uw:=@List.pairwise_lt_range
abbrev Ux:=@List.perm_ext_iff_of_nodup
abbrev Uy:=@Array.getElem?_eq_getElem
abbrev Uz:=@List.all_eq_true
abbrev UA:=@Int.toNat_of_nonneg
abbrev UB:=@Bool.not_true
abbrev UC:=@PySem.wpAny_forIn_list
abbrev UD:=@PySem.wpAny_setState_of
abbrev UE:=@Bool.and_self
abbrev UF:=@Array.mem_toList_iff
abbrev UG:=@List.nodup_append
abbrev UH:=@PySem.wpAny_storeSet_of
abbrev UI:=@PySem.putSet_of
abbrev UJ:=@Bool.not_false
abbrev UK:=@Bool.and_false
abbrev UL:=@List.foldl_append
abbrev UM:=@PySem.codeAny_builtin
abbrev UN:=@PySem.Around.under_plainId
abbrev UO:=@PyProof.Rows.F.plain_set_update_loop
abbrev UP:=@PySem.plainId_quiet
abbrev UQ:=@PySem.isSubtype_type
abbrev UR:=@PySem.F.called_set
abbrev US:=@PySem.Code.quiet_builtin
abbrev UT:=@PySem.codeAny_call_builtin
abbrev UU:=@PySem.wpAny_pyIter_list
abbrev UV:=@PySem.wpAny_runValue
abbrev UW:=@PySem.Walks.tuple
abbrev UX:=@List.take_add_one
abbrev UY:=@List.take_length
abbrev UZ:=@Array.getElem_mem
abbrev U0:=@PySem.W.KasT.kasWp_bind
abbrev U1:=@decide_eq_decide
abbrev U2:=@List.getD_eq_getElem?_getD
abbrev U3:=@List.ext_getElem?
abbrev U4:=@List.getElem?_range
abbrev U5:=@List.getElem?_eq_none
abbrev U6:=@List.pairwise_map
abbrev U7:=@PyProof.Rows.listUpdate_at
abbrev U8:=@PyProof.Rows.get?_update_seq
abbrev U9:=@PySem.wpAny_newList
abbrev Va:=@PyProof.Rows.size_push'
abbrev Vb:=@PySem.Heap.size_update
abbrev Vc:=@PySem.Heap.get?_update_ne
abbrev Vd:=@bne_self_eq_false
abbrev Ve:=@List.getElem_mem
abbrev Vf:=@List.length_eq_zero_iff
abbrev Vg:=@List.getElem?_eq_getElem
abbrev Vh:=@PySem.wpAny_setEntries_of
abbrev Vi:=@PySem.wpAny_setField_rec
abbrev Vj:=@PySem.Calls.call_function_entry
abbrev Vk:=@PyProof.Rows.entry_list_sort
abbrev Vl:=@beq_iff_eq
abbrev Vm:=@List.getElem_of_mem
abbrev Vn:=@of_eq_true
abbrev Vo:=@eq_self
abbrev Vp:=@List.getElem?_cons_succ
abbrev Vq:=@List.drop_eq_getElem_cons
abbrev Vr:=@List.drop_length
abbrev Vs:=@decide_eq_true_eq
abbrev Vt:=@List.zip_cons_cons
abbrev Vu:=@List.eq_nil_of_length_eq_zero
abbrev Vv:=@PyProof.Rows.boot_isinstance
abbrev Vw:=@List.all_map
abbrev Vx:=@Int.le_antisymm
abbrev Vy:=@List.length_pos_iff
abbrev Vz:=@Bool.or_eq_true
abbrev VA:=@List.take_append_of_le_length
abbrev VB:=@List.set_append_right
abbrev VC:=@List.filter_cons
abbrev VD:=@PySem.seqSlot_of
abbrev VE:=@PySem.F.slot_list_iadd
abbrev VF:=@List.length_reverse
abbrev VG:=@List.getElem_toArray
abbrev VH:=@List.countP_map
abbrev VI:=@List.findIdx_lt_length_of_exists
abbrev VJ:=@PySem.F.slot_tuple_mul
abbrev VL:=@PySem.PassesOwn.never
abbrev VM:=@List.Pairwise.imp_of_mem
abbrev VN:=@Int.emod_nonneg
abbrev VO:=@Int.emod_lt_of_pos
abbrev VP:=@List.set_cons_succ
abbrev VQ:=@List.set_cons_zero
abbrev VR:=@Function.comp_apply
abbrev VS:=@List.filter_eq_self
abbrev VT:=@List.mem_flatMap
abbrev VU:=@List.filter_map
abbrev VV:=@List.range_succ
abbrev VW:=@List.flatMap_cons
abbrev VX:=@Bool.true_and
abbrev VY:=@List.any_map
abbrev VZ:=@List.any_eq_true
abbrev V0:=@of_decide_eq_true
abbrev V1:=@Nat.min_eq_left
abbrev V2:=@Int.min_eq_left
abbrev V3:=@Int.max_eq_right
abbrev V4:=@Int.min_eq_right
abbrev V5:=@Int.max_eq_left
abbrev V6:=@Function.comp_def
abbrev V7:=@List.cons.injEq
abbrev V8:=@and_true
abbrev V9:=@Bool.not_eq_true'
variable{ks:List 1e8}{pins:List (PySem.Addr×PySem.Obj)}{fd:PySem.FuncData}{n:Nat}{Q:PySem.Value->PySem.Shared->Prop}{s:PySem.Shared}{Z:List PySem.Addr}{E:PySem.Value->PySem.Shared->Prop}{f:PySem.Addr}{K:PySem.W.Frag}{i:Nat}{w:PySem.World}{a:PySem.Addr}{m:Nat}{x:PySem.Str}{A:PySem.Around}{pos:PySem.Pos}{mg:PySem.Str->Option PySem.Value}{ps:List 13e5}{ns:List Int}{T:Int->Int->Option Nat}{es:Array (Int×PySem.Value)}{k:List Int}{α:List (Nat×Int×PySem.Value)}{prog:PySem.Program}{P:PySem.Program}{N:List PySem.Str}{scope:PySem.Scope}{e:PySem.Expr}{us:List PySem.Value}{gens:List Comprehension}{base:PySem.Heap}{u:PySem.Value}{β:Type}{st:PySem.Stmt}{t:PySem.SetTable}{px:PySem.Pos}{qual:PySem.Str}{op:PySem.CmpOp}{XP:(PySem.Str->Option PySem.Value)->PySem.Heap->Prop}{body:List PySem.Stmt}{b:PySem.Addr}{t':Nat}{q:Int}{tg:PySem.Expr}{env:PySem.Env}{its:List PySem.Value}{acc:PySem.Addr}{osl:Array (Option PySem.Value)}{l:PySem.Addr}{j:Nat}{fp:List PySem.Addr}{Nc:List PySem.Str}{lo:Int}{h':PySem.Heap}{it:PySem.Addr}{pos':PySem.Pos}{apos:PySem.Pos}{mask:Nat}{elts:List PySem.Expr}{outer:List PySem.Env}{neg:Bool}{c:PySem.Expr}{z:Nat×Int×PySem.Value}{J:Nat->PySem.Heap->Prop}{ch:List PySem.Addr}{known:List PySem.Str}{C:Int->Int->Prop}{owner:Array 5e0}{g:Comprehension}{subs:List PySem.Str}{loose:List PySem.Str}{a_NoTree:PySem.Addr}{rest:List PySem.Expr}{eks:List 37e7}{YP:PySem.World->PySem.Heap->Prop}{elt:PySem.Expr}{tn:String}{cl:List (PySem.Str×PySem.Addr)}{iter:PySem.Expr}{sc:PySem.Scope}{pos1:PySem.Pos}{s':PySem.Shared}{hs:List Int}{g':Array GenState}{params:Arguments}{an:Option PySem.Addr}{pos2:PySem.Pos}{I:PySem.Addr}{k1:Nat}{np:PySem.Pos}{cdv:PySem.Value}{vl:PySem.Value}{ea:PySem.Addr}{φ:PySem.Heap->Prop}{left:List Int}{a_NoNumber:PySem.Addr}{sl:PySem.Addr}{ob:PySem.Expr}{tk:PySem.Tok}
namespace L2
open PySem PySem.Spec PyProof.Rows
def fH(s:Stmt):Arguments:=match s with
 |.FunctionDef _ a _ _ _ _ _ _ _ _=>a
 |_=>{posonlyargs:=[],args:=[],vararg:=none,kwonlyargs:=[],kw_defaults:=[],kwarg:=none,defaults:=[]}
def cW(s:Stmt):List Stmt:=match s with
 |.FunctionDef _ _ b _ _ _ _ _ _ _=>b
 |_=>[]
def aw(s:Stmt):Scope:=match s with
 |.FunctionDef _ _ _ _ _ _ sc _ _ _=>sc
 |_=>{kind:=.function,names:=[],isGenerator:=false,isCoroutine:=false}
end L2
namespace Lw
open PySem PySem.Spec PyProof.Rows L2
def top(i:Nat):Stmt:=PySem.Challenge.pw_rootwebs_k33_trees_and_words.main.body.getD i (.Pass ⟨0,0,0,0⟩)
abbrev j9:Stmt:=top 11
abbrev fM:Stmt:=top 12
abbrev ka:Stmt:=top 13
abbrev ie:Stmt:=top 14
abbrev ic:Stmt:=top 15
abbrev lq:Stmt:=top 19
abbrev lp:Stmt:=top 22
abbrev m8:Stmt:=top 21
abbrev jR:Stmt:=top 20
abbrev j8:Stmt:=top 18
abbrev kI:Stmt:=top 23
abbrev d4:Stmt:=top 25
abbrev ig:Stmt:=top 24
abbrev jt:Stmt:=top 28
abbrev iM:Stmt:=top 29
abbrev gF:Stmt:=top 30
abbrev jQ:Stmt:=top 31
abbrev gA:Stmt:=top 33
abbrev jv:Stmt:=top 34
abbrev il:Stmt:=top 35
abbrev jw:Stmt:=top 36
abbrev iN:Stmt:=top 37
abbrev gy:Stmt:=top 38
abbrev eS:Stmt:=top 39
abbrev d5:Stmt:=top 40
abbrev i6:Stmt:=top 41
abbrev f7:Stmt:=top 42
abbrev bz:Stmt:=top 43
abbrev ik:Stmt:=top 44
abbrev eM:Stmt:=top 45
abbrev gx:Stmt:=top 46
abbrev eN:Stmt:=top 47
abbrev fJ:Stmt:=top 48
abbrev ju:Stmt:=top 49
abbrev dF:Stmt:=top 50
abbrev dR:Stmt:=top 51
abbrev jx:Stmt:=top 52
abbrev k9:Stmt:=top 53
def en(P:Params)(n:Str)(t:Tok)(v:Value):DictEntry:=⟨PyData.keyHash P n,.str n t,v⟩
def fo (n:Str) (st:Stmt) (m:Str) (t:Tok) (c:Addr):Obj:=⟨.type "function",none,.func 26e7,#[]⟩
def co (n:Str) (t:Tok) (l k i:Int) (a:Addr) (p:Bool) (u:Nat):Obj:=⟨.type "code",none,.fields #[.str n t,.str n (t+1),.str "/claim/cut.py" (t+2),.int l 0,.int k 0,.int 0 0,.int 0 0,.int 3 0,.ref a,.bool true,.int i 0,.ref (a+1),.none,bif p then .ref (a+2) else .none,bif p then .ref (a+3) else .none,.ref (bif p then a+4 else a+2),.int u 0,.int l 0,.str "/claim/cut.py" (u+1)],#[]⟩
def Kz (P:Params):W.Frag:=[(3,⟨.type "dict",none,.dict #[en P "__name__" 165 54e5,en P "__doc__" 166 .none,en P "__package__" 167 .none,en P "__loader__" 168 (.builtin "__main__.__loader__#opaque"),en P "__spec__" 169 .none,en P "__annotations__" 170 (.ref 6),en P "__builtins__" 171 (.ref 4),en P "__file__" 173 (.str "/claim/cut.py" 172),en P "__cached__" 174 .none,en P "RootError" 206 21e2,en P "NoPlace" 222 (.ref 37),en P "NoNumber" 238 (.ref 49),en P "NoLine" 254 (.ref 61),en P "NoRoot" 270 (.ref 73),en P "NoTree" 286 (.ref 85),en P "NoWeb" 311 (.ref 104),en P "NoText" 336 (.ref 123),en P "TooGreat" 363 (.ref 142),en P "is_whole" 372 (.ref 151),en P "is_whole_from" 381 (.ref 158),en P "is_place" 389 (.ref 165),en P "is_places" 395 (.ref 170),en P "is_rising" 401 (.ref 175),en P "MOST_PLACES" 405 (.int 6 404),en P "web_good" 414 (.ref 182),en P "is_many" 421 (.ref 189),en P "is_ties" 427 (.ref 194),en P "is_tie" 435 (.ref 201),en P "is_pair" 443 (.ref 208),en P "web_of" 449 (.ref 213),en P "fars_from" 455 (.ref 218),en P "next_places" 461 (.ref 223),en P "LEAST_WORDED" 465 (.int 3 464),en P "tree_good" 472 (.ref 230),en P "check_tree" 479 (.ref 237),en P "word_of" 485 (.ref 242),en P "tree_by" 491 (.ref 247),en P "_law_cell_at" 501 (.ref 254),en P "_law_next" 508 (.ref 261),en P "_law_pen_of" 516 (.ref 268),en P "_law_draw" 525 (.ref 275),en P "_law_whole" 532 (.ref 282),en P "_law_kind_of" 540 (.ref 289),en P "_law_named" 546 (.ref 294),en P "_law_names_by" 552 (.ref 299),en P "_law_far" 558 (.ref 304),en P "_law_steps" 564 (.ref 309),en P "_law_sparse_by" 570 (.ref 314),en P "_law_web_by" 582 (.ref 321),en P "_law_tree_by" 588 (.ref 326),en P "_law_no_tree" 600 (.ref 333),en P "_law_is_tree" 606 (.ref 338),en P "_law_word" 612 (.ref 343),en P "_law_told" 622 (.ref 350),en P "_law_word_good" 628 (.ref 355),en P "_law_treed_right" 637 (.ref 362),en P "_law_bent" 649 (.ref 369),en P "law" 655 (.ref 374)] 58,#[]⟩),
 (23,⟨.type "dict",none,.dict #[en P "__module__" 196 8e9,en P "__firstlineno__" 200 (.int 2 199),en P "__static_attributes__" 201 (.ref 22),en P "__weakref__" 203 (.ref 25),en P "__doc__" 204 .none] 3,#[]⟩),
 (24,⟨.type "type",none,.cls ⟨"RootError",[8e3],[21e2,8e3,13e1,6e8,9e3],23, "RootError",true,[],[(.ref 37),(.ref 49),(.ref 61),(.ref 73),(.ref 85),(.ref 104),(.ref 123),(.ref 142)],false,none,false⟩,#[some (.ref 15),none,some (.str "RootError" 189),some (.str "RootError" 197),some 7e6,some 18e0]⟩),
 (36,⟨.type "dict",none,.dict #[en P "__module__" 214 8e9,en P "__firstlineno__" 218 (.int 4 217),en P "__static_attributes__" 219 (.ref 35),en P "__doc__" 220 .none] 2,#[]⟩),
 (37,⟨.type "type",none,.cls ⟨"NoPlace",[21e2],[(.ref 37),21e2,8e3,13e1,6e8,9e3],36, "NoPlace",true,[],[],false,none,false⟩,#[some (.ref 28),none,some (.str "NoPlace" 207),some (.str "NoPlace" 215),some 7e6,some 18e0]⟩),
 (48,⟨.type "dict",none,.dict #[en P "__module__" 230 8e9,en P "__firstlineno__" 234 (.int 6 233),en P "__static_attributes__" 235 (.ref 47),en P "__doc__" 236 .none] 2,#[]⟩),
 (49,⟨.type "type",none,.cls ⟨"NoNumber",[21e2],[(.ref 49),21e2,8e3,13e1,6e8,9e3],48, "NoNumber",true,[],[],false,none,false⟩,#[some (.ref 40),none,some (.str "NoNumber" 223),some (.str "NoNumber" 231),some 7e6,some 18e0]⟩),
 (60,⟨.type "dict",none,.dict #[en P "__module__" 246 8e9,en P "__firstlineno__" 250 (.int 8 249),en P "__static_attributes__" 251 (.ref 59),en P "__doc__" 252 .none] 2,#[]⟩),
 (61,⟨.type "type",none,.cls ⟨"NoLine",[21e2],[(.ref 61),21e2,8e3,13e1,6e8,9e3],60, "NoLine",true,[],[],false,none,false⟩,#[some (.ref 52),none,some (.str "NoLine" 239),some (.str "NoLine" 247),some 7e6,some 18e0]⟩),
 (72,⟨.type "dict",none,.dict #[en P "__module__" 262 8e9,en P "__firstlineno__" 266 (.int 10 265),en P "__static_attributes__" 267 (.ref 71),en P "__doc__" 268 .none] 2,#[]⟩),
 (73,⟨.type "type",none,.cls ⟨"NoRoot",[21e2],[(.ref 73),21e2,8e3,13e1,6e8,9e3],72, "NoRoot",true,[],[],false,none,false⟩,#[some (.ref 64),none,some (.str "NoRoot" 255),some (.str "NoRoot" 263),some 7e6,some 18e0]⟩),
 (84,⟨.type "dict",none,.dict #[en P "__module__" 278 8e9,en P "__firstlineno__" 282 (.int 12 281),en P "__static_attributes__" 283 (.ref 83),en P "__doc__" 284 .none] 2,#[]⟩),
 (85,⟨.type "type",none,.cls ⟨"NoTree",[21e2],[(.ref 85),21e2,8e3,13e1,6e8,9e3],84, "NoTree",true,[],[],false,none,false⟩,#[some (.ref 76),none,some (.str "NoTree" 271),some (.str "NoTree" 279),some 7e6,some 18e0]⟩),
 (103,⟨.type "dict",none,.dict #[en P "__module__" 294 8e9,en P "__firstlineno__" 298 (.int 14 297),en P "__init__" 306 (.ref 101),en P "__static_attributes__" 308 (.ref 102),en P "__doc__" 309 .none] 2,#[]⟩),
 (104,⟨.type "type",none,.cls ⟨"NoWeb",[21e2],[(.ref 104),21e2,8e3,13e1,6e8,9e3],103, "NoWeb",true,[],[],false,none,false⟩,#[some (.ref 88),none,some (.str "NoWeb" 287),some (.str "NoWeb" 295),some 7e6,some 18e0]⟩),
 (122,⟨.type "dict",none,.dict #[en P "__module__" 319 8e9,en P "__firstlineno__" 323 (.int 18 322),en P "__init__" 331 (.ref 120),en P "__static_attributes__" 333 (.ref 121),en P "__doc__" 334 .none] 2,#[]⟩),
 (123,⟨.type "type",none,.cls ⟨"NoText",[21e2],[(.ref 123),21e2,8e3,13e1,6e8,9e3],122, "NoText",true,[],[],false,none,false⟩,#[some (.ref 107),none,some (.str "NoText" 312),some (.str "NoText" 320),some 7e6,some 18e0]⟩),
 (141,⟨.type "dict",none,.dict #[en P "__module__" 344 8e9,en P "__firstlineno__" 348 (.int 22 347),en P "__init__" 357 (.ref 139),en P "__static_attributes__" 360 (.ref 140),en P "__doc__" 361 .none] 2,#[]⟩),
 (142,⟨.type "type",none,.cls ⟨"TooGreat",[21e2],[(.ref 142),21e2,8e3,13e1,6e8,9e3],141, "TooGreat",true,[],[],false,none,false⟩,#[some (.ref 126),none,some (.str "TooGreat" 337),some (.str "TooGreat" 345),some 7e6,some 18e0]⟩),
 (150,co "is_whole" 366 28 1 181 145 true 370),
 (151,fo "is_whole" j9 "rootwebs.kinds" 364 150),
 (157,co "is_whole_from" 373 30 3 181 152 true 379),
 (158,fo "is_whole_from" fM "rootwebs.kinds" 364 157),
 (164,co "is_place" 382 32 2 181 159 true 387),
 (165,fo "is_place" ka "rootwebs.kinds" 364 164),
 (169,co "is_places" 390 34 2 181 166 false 393),
 (170,fo "is_places" ie "rootwebs.kinds" 364 169),
 (174,co "is_rising" 396 36 1 181 171 false 399),
 (175,fo "is_rising" ic "rootwebs.kinds" 364 174),
 (181,co "web_good" 406 40 1 181 176 true 412),
 (182,fo "web_good" j8 "rootwebs.webs" 402 181),
 (188,co "is_many" 415 45 1 181 183 true 419),
 (189,fo "is_many" lq "rootwebs.webs" 402 188),
 (193,co "is_ties" 422 47 2 181 190 false 425),
 (194,fo "is_ties" jR "rootwebs.webs" 402 193),
 (200,co "is_tie" 428 49 2 181 195 true 433),
 (201,fo "is_tie" m8 "rootwebs.webs" 402 200),
 (207,co "is_pair" 436 51 2 181 202 true 441),
 (208,fo "is_pair" lp "rootwebs.webs" 402 207),
 (212,co "web_of" 444 53 2 181 209 false 447),
 (213,fo "web_of" kI "rootwebs.webs" 402 212),
 (217,co "fars_from" 450 60 2 181 214 false 453),
 (218,fo "fars_from" ig "rootwebs.webs" 402 217),
 (222,co "next_places" 456 72 2 181 219 false 459),
 (223,fo "next_places" d4 "rootwebs.webs" 402 222),
 (229,co "tree_good" 466 76 1 181 224 true 470),
 (230,fo "tree_good" jt "rootwebs.trees" 462 229),
 (236,co "check_tree" 473 78 1 181 231 true 477),
 (237,fo "check_tree" iM "rootwebs.trees" 462 236),
 (241,co "word_of" 480 81 1 181 238 false 483),
 (242,fo "word_of" gF "rootwebs.trees" 462 241),
 (246,co "tree_by" 486 94 2 181 243 false 489),
 (247,fo "tree_by" jQ "rootwebs.trees" 462 246),
 (253,co "_law_cell_at" 494 107 2 181 248 true 499),
 (254,fo "_law_cell_at" gA "law_rootwebs_k33_trees_and_words" 492 253),
 (260,co "_law_next" 502 111 1 181 255 true 506),
 (261,fo "_law_next" jv "law_rootwebs_k33_trees_and_words" 492 260),
 (267,co "_law_pen_of" 509 114 1 181 262 true 514),
 (268,fo "_law_pen_of" il "law_rootwebs_k33_trees_and_words" 492 267),
 (274,co "_law_draw" 517 117 2 181 269 true 523),
 (275,fo "_law_draw" jw "law_rootwebs_k33_trees_and_words" 492 274),
 (281,co "_law_whole" 526 124 1 181 276 true 530),
 (282,fo "_law_whole" iN "law_rootwebs_k33_trees_and_words" 492 281),
 (288,co "_law_kind_of" 533 126 1 181 283 true 538),
 (289,fo "_law_kind_of" gy "law_rootwebs_k33_trees_and_words" 492 288),
 (293,co "_law_named" 541 132 2 181 290 false 544),
 (294,fo "_law_named" eS "law_rootwebs_k33_trees_and_words" 492 293),
 (298,co "_law_names_by" 547 135 2 181 295 false 550),
 (299,fo "_law_names_by" d5 "law_rootwebs_k33_trees_and_words" 492 298),
 (303,co "_law_far" 553 138 1 181 300 false 556),
 (304,fo "_law_far" i6 "law_rootwebs_k33_trees_and_words" 492 303),
 (308,co "_law_steps" 559 149 2 181 305 false 562),
 (309,fo "_law_steps" f7 "law_rootwebs_k33_trees_and_words" 492 308),
 (313,co "_law_sparse_by" 565 155 1 181 310 false 568),
 (314,fo "_law_sparse_by" bz "law_rootwebs_k33_trees_and_words" 492 313),
 (320,co "_law_web_by" 571 174 1 181 315 true 580),
 (321,fo "_law_web_by" ik "law_rootwebs_k33_trees_and_words" 492 320),
 (325,co "_law_tree_by" 583 187 1 181 322 false 586),
 (326,fo "_law_tree_by" eM "law_rootwebs_k33_trees_and_words" 492 325),
 (332,co "_law_no_tree" 589 191 2 181 327 true 598),
 (333,fo "_law_no_tree" gx "law_rootwebs_k33_trees_and_words" 492 332),
 (337,co "_law_is_tree" 601 198 1 181 334 false 604),
 (338,fo "_law_is_tree" eN "law_rootwebs_k33_trees_and_words" 492 337),
 (342,co "_law_word" 607 206 1 181 339 false 610),
 (343,fo "_law_word" fJ "law_rootwebs_k33_trees_and_words" 492 342),
 (349,co "_law_told" 613 216 3 181 344 true 620),
 (350,fo "_law_told" ju "law_rootwebs_k33_trees_and_words" 492 349),
 (354,co "_law_word_good" 623 221 2 181 351 false 626),
 (355,fo "_law_word_good" dF "law_rootwebs_k33_trees_and_words" 492 354),
 (361,co "_law_treed_right" 629 225 2 181 356 true 635),
 (362,fo "_law_treed_right" dR "law_rootwebs_k33_trees_and_words" 492 361),
 (368,co "_law_bent" 638 230 3 181 363 true 647),
 (369,fo "_law_bent" jx "law_rootwebs_k33_trees_and_words" 492 368),
 (373,co "law" 650 235 1 181 370 false 653),
 (374,fo "law" k9 "law_rootwebs_k33_trees_and_words" 492 373)]
def Qz:Program:=W.view PySem.Challenge.pw_rootwebs_k33_trees_and_words [1,2,3,4,5,6,7,8,9,11,12,13,14,15,17,18,19,20,21,22,23,24,25,27,28,29,30,31,33,34,35,36,37,38,39,40,41,42,43,44,45,46,47,48,49,50,51,52,53]
noncomputable abbrev Hz:W.Hook:=W.kHook Kz [3,23,24,36,37,48,49,60,61,72,73,84,85,103,104,122,123,141,142,150,151,157,158,164,165,169,170,174,175,181,182,188,189,193,194,200,201,207,208,212,213,217,218,222,223,229,230,236,237,241,242,246,247,253,254,260,261,267,268,274,275,281,282,288,289,293,294,298,299,303,304,308,309,313,314,320,321,325,326,332,333,337,338,342,343,349,350,354,355,361,362,368,369,373,374] fun _=>by kernel_rfl
theorem Kj:PySem.Challenge.rw_rootwebs_k33_trees_and_words.wellSaid=true:=by kernel_rfl
noncomputable abbrev Xz(s:Shared):Bool:=W.xlAt Qz [] s&&W.recOk (W.RowW.records (W.OpenRow.toRowW (W.OpenLaw.row PySem.Challenge.rw_rootwebs_k33_trees_and_words))) s
theorem z6{B Z β γ δ ε:Type _}{o:Option B}(F:B->Z×β×γ×δ)(G:B->ε)(g:Z×β×γ×δ)(v:ε)
  (h1:o.map (fun s=>(F s).1)=some g.1) (h2:o.map (fun s=>((F s).2.1,(F s).2.2.1))=some (g.2.1,g.2.2.1)) (h3:o.map (fun s=>(F s).2.2.2)=some g.2.2.2)
  (h4:o.map G=some v):o.map (fun s=>(F s,G s))=some (g,v):=by
 cases o with
 |none=>cases h4
 |some s=>
  have e1:(F s).1=g.1:=Q7 h1;have e2:((F s).2.1,(F s).2.2.1)=(g.2.1,g.2.2.1):=Q7 h2;have e3:(F s).2.2.2=g.2.2.2:=Q7 h3;have e4:G s=v:=Q7 h4;have e5:(F s).2.1=g.2.1:=(Prod.mk.inj e2).1;have e6:(F s).2.2.1=g.2.2.1:=(Prod.mk.inj e2).2;have e:F s=g:=Prod.ext e1 (Prod.ext e5 (Prod.ext e6 e3));show some (F s,G s)=some (g,v);rw[e,e4]
noncomputable abbrev Oz(w:World):=W.openEnds PySem.treeTable 44e8 w 6388
noncomputable abbrev Sz:=W.openSeen Qz [] (PySem.importedModules PySem.Challenge.rw_rootwebs_k33_trees_and_words.row.prog.main.body) Xz true
noncomputable abbrev Tz:=W.openGood Qz []
theorem GV:∀w,(Oz w).map (fun s=>(Sz s).1)=some Tz.1:=fun w=>by kernel_rfl
theorem GU:∀w,(Oz w).map (fun s=>((Sz s).2.1,(Sz s).2.2.1))=some (Tz.2.1,Tz.2.2.1):=fun w=>by kernel_rfl
theorem GT:∀w,(Oz w).map (fun s=>(Sz s).2.2.2)=some Tz.2.2.2:=fun w=>by kernel_rfl
theorem GS:∀w,(Oz w).map (W.Hook.obs Hz)=some (W.Hook.val Hz w):=fun w=>by kernel_rfl
theorem Kk:W.LeftO 44e8 Qz [] Xz (W.Hook.obs Hz) (W.Hook.val Hz) 6388:=fun w=>z6 Sz (W.Hook.obs Hz) Tz (W.Hook.val Hz w) (GV w) (GU w) (GT w) (GS w)
end Lw
namespace L2
open PySem PySem.Spec PyProof.Rows
abbrev uh:=Sum Int Str
def JS:uh->Value->Bool
 |.inl k,v=>Value.isInt k v
 |.inr x,v=>Value.isStrOf x v
def Ql(w:World):uh->Int
 |.inl k=>hashInt k
 |.inr x=>hashStr w x
theorem dD:∀{k:uh}{v:Value},JS k v=true->(∃i t,k=Sum.inl i/\v=Value.int i t)\/(∃x t,k=Sum.inr x/\v=Value.str x t)
 |.inl i,v,h=>by
  obtain⟨t,e⟩:=Q8 (k:=i) (v:=v) h;exact .inl ⟨i,t,rfl,e⟩
 |.inr x,v,h=>by
  obtain⟨t,e⟩:=Value.isStrOf_shape (x:=x) (v:=v) h;exact .inr ⟨x,t,rfl,e⟩
theorem Mw(a b:Int):decide ((Sum.inl a:uh)=Sum.inl b)=(a == b):=by
 by_cases e:a=b
 ·subst e;simp
 ·have h:¬ (Sum.inl a:uh)=Sum.inl b:=fun q=>e (Sum.inl.inj q);rw[Q9 h];exact(Ra.mpr e).symm
theorem Mt(a b:Str):decide ((Sum.inr a:uh)=Sum.inr b)=decide (a=b):=by
 by_cases e:a=b
 ·subst e;simp
 ·have h:¬ (Sum.inr a:uh)=Sum.inr b:=fun q=>e (Sum.inr.inj q);rw[Q9 h,Q9 e]
theorem Mv(a:Int)(b:Str):decide ((Sum.inl a:uh)=Sum.inr b)=false:=Q9 (fun q=>nomatch q)
theorem Mu(a:Str)(b:Int):decide ((Sum.inr a:uh)=Sum.inl b)=false:=Q9 (fun q=>nomatch q)
def sf(prog:Program)(w:World):PySem.KeyKind prog w uh where
 is:=JS
 hash:=Ql w
 inj:=fun v a b ha hb=>by
  rcases dD ha with⟨i,t,rfl,rfl⟩|⟨x,t,rfl,rfl⟩
  ·rcases dD hb with ⟨j, u, rfl, e⟩ | ⟨y, u, rfl, e⟩
   ·injection e with e1 _;rw[e1]
   ·exact nomatch e
  ·rcases dD hb with ⟨j, u, rfl, e⟩ | ⟨y, u, rfl, e⟩
   ·exact nomatch e
   ·injection e with e1 _;rw[e1]
 byValue:=fun k v h=>by
  rcases dD h with⟨i,t,rfl,rfl⟩|⟨x,t,rfl,rfl⟩ <;> rfl
 pyHash:=fun hv h=>by
  rcases dD hv with⟨i,t,rfl,rfl⟩|⟨x,t,rfl,rfl⟩
  ·exact wpAny_pyHash_int h
  ·exact wpAny_pyHash_str h
 eqBool:=fun hu hv h=>by
  rcases dD hu with⟨i,t,rfl,rfl⟩|⟨x,t,rfl,rfl⟩
  ·rcases dD hv with ⟨j, u, rfl, rfl⟩ | ⟨y, u, rfl, rfl⟩
   ·rw[Mw]at h;exact Rb h
   ·rw[Mv]at h;exact SeqAt.EqAt.int_str i t y u _ _ _ _ h
  ·rcases dD hv with ⟨j, u, rfl, rfl⟩ | ⟨y, u, rfl, rfl⟩
   ·rw[Mu]at h;exact SeqAt.EqAt.str_int x t j u _ _ _ _ h
   ·rw[Mt]at h;exact wpAny_eqBool_str h
 «strs»:=fun k x t v h=>by
  rcases dD h with⟨i,u,rfl,e⟩|⟨y,u,rfl,e⟩
  ·exact nomatch e
  ·injection e with e1 _
   subst e1;cases v <;> rfl
inductive V where
 |non|bl (b:Bool)|int (i:Int)|str (x:Str)|byt (b:Array UInt8)|flt (b:UInt64)|ref (a:Addr)|ty (n:String)
 deriving DecidableEq
def cE:V->Value->Prop
 |.non,u=>u=Value.none
 |.bl b,u=>u=Value.bool b
 |.int i,u=>∃t,u=Value.int i t
 |.str x,u=>∃t,u=Value.str x t
 |.byt b,u=>∃t,u=Value.bytes b t
 |.flt b,u=>∃t,u=Value.float b t
 |.ref a,u=>u=Value.ref a
 |.ty n,u=>u=Value.type n
abbrev bt:List V->List Value->Prop:=Paired cE
theorem bt.length{xs:List V}(r:bt xs us):xs.length=us.length:=Paired.length r
theorem bt.get:∀{xs:List V}{us:List Value}{i:Nat}{x:V},bt xs us->xs[i]?=some x->∃u,us[i]?=some u/\cE x u
 |_,_,_,_,.nil,e=>by simp at e
 |_,_,0,_,.cons r _,e=>by simp at e;subst e;exact⟨_,rfl,r⟩
 |_,_,i+1,x,.cons _ t,e=>by
  obtain⟨u,h1,h2⟩:=bt.get (i:=i) (x:=x) t 30e1;exact⟨u,by simpa using h1,h2⟩
theorem bt.set{x:V}{u:Value}(r:cE x u):∀{xs:List V}{us:List Value}(i:Nat),bt xs us->bt (xs.set i x) (us.set i u)
 |_,_,_,.nil=>.nil
 |_,_,0,.cons _ t=>.cons r t
 |_,_,i+1,.cons q t=>.cons q (bt.set r i t)
theorem bt.append:∀{xs ys:List V}{us ws:List Value},bt xs us->bt ys ws->bt (xs++ys) (us++ws)
 |_,_,_,_,.nil,s=>s
 |_,_,_,_,.cons r t,s=>.cons r (bt.append t s)
theorem bt.take:∀{xs:List V}{us:List Value}(n:Nat),bt xs us->bt (xs.take n) (us.take n)
 |_,_,0,_=>.nil
 |_,_,_+1,.nil=>.nil
 |_,_,n+1,.cons r t=>.cons r (bt.take n t)
theorem bt.drop:∀{xs:List V}{us:List Value}(n:Nat),bt xs us->bt (xs.drop n) (us.drop n)
 |_,_,0,r=>r
 |_,_,_+1,.nil=>.nil
 |_,_,n+1,.cons _ t=>bt.drop n t
def N3:Option V->Option Value->Prop
 |some v,some u=>cE v u
 |none,none=>True
 |_,_=>False
def KV{κ:Type}:List (κ×V)->List (κ×Value)->Prop:=Paired fun(p:κ×V) (q:κ×Value)=>p.1=q.1/\cE p.2 q.2
def kV:uh->V
 |.inl i=>.int i
 |.inr x=>.str x
inductive HO where
 |lst (xs:List V)
 |tup (xs:List V)
 |dK (kvs:List (uh×V))|dT (kvs:List (List uh×V))
 |set (S:Int->Bool) (n:Nat)
 |ins (C dx:Addr) (fs:List (Str×V))
 |own (x:Addr)
 |xd (fs:List (Str×V))
 |met (f x:Addr)
 |rng (lo hi:Int)
 |frz (o:Obj) (u:HO)
 |tbl (ps:Array Value)
 |ext (φ:Heap->Prop)
abbrev Hp:=Addr->Option HO
def cQ(H:Hp)(a:Addr)(o:HO):Hp:=fun b=>if b=a then some o else H b
theorem cf{H:Hp}{o:HO}:cQ H a o a=some o:=by unfold cQ;rw[Rc rfl]
theorem bF{H:Hp}{o:HO}(h:b≠a):cQ H a o b=H b:=by unfold cQ;rw[Re h]
theorem uL{H:Hp}{o u:HO}(h:H a=some o)(h':H b=some u)(d:o≠u):a≠b:=by
 intro e;subst e;rw[h]at h';exact d (Q7 h')
theorem cL{H:Hp}{o:HO}(h:H a=some o)(h':H b=none):a≠b:=by
 intro e;subst e;rw[h]at h';cases h'
section
variable(P:Program)(w:World)
def eY(H:Hp)(h:Heap)(a:Addr):HO->Prop
 |.lst xs=>xs.length<=sizeLine/\∃(its:List Value) (n:Nat),bt xs its/\h.get? a=some {cls:=.type "list",data:=.seq 2e7 n}
 |.tup xs=>xs.length<=sizeLine/\∃its:List Value,bt xs its/\IsTup h a 2e7
 |.dK kvs=>kvs.length<=sizeLine/\(a == sysModules)=false/\∃vs,KV kvs vs/\h.DictOf (sf P w) a vs
 |.dT kvs=>kvs.length<=sizeLine/\(a == sysModules)=false/\∃xs:List (List uh×Addr×Value),
   Paired (fun(p:List uh×V) (q:List uh×Addr×Value)=>p.1=q.1/\H q.2.1=some (.tup (p.1.map kV))/\cE p.2 q.2.2) kvs xs /\
   ∃o es ep,h.get? a=some o/\o.ExactDict/\o.data=.dict es ep/\es.toList=xs.map (entryOfKey (tupleKind (sf P w)))/\(xs.map 3e3).Nodup
 |.set S n=>h.SetOf (intKind P w) a S n
 |.ins C dx fs=>H dx=some (.own a)/\fs.length<=1000/\dx≠a/\h.get? a=some (W.instObj C dx) /\
   ∃mA,h.Ns1 dx mA/\(∀f,N3 (fs.lookup f) (mA f))/\PySem.Within mA (fs.map 3e3)
 |.own _=>∃o,h.get? a=some o
 |.xd fs=>∃mA,h.Ns1 a mA/\∀f,N3 (fs.lookup f) (mA f)
 |.rng lo hi=>∃t u v,h.get? a=some {cls:=.type "range",data:=.fields #[.int lo t,.int hi u,.int 1 v]}
 |.frz o u=>h.get? a=some o/\eY H h a u
 |.tbl ps=>h.get? a=some {cls:=.none,data:=.fields ps}
 |.met f x=>h.get? a=some (W.methodObj 4e6 73e4)
 |.ext φ=>φ h/\(∃o,h.get? a=some o)/\∀h1 h2:Heap,φ h1->(∀o,h1.get? a=some o->h2.get? a=some o)->φ h2
def pY(H:Hp)(h:Heap):Prop:=∀a o,H a=some o->eY P w H h a o
end
section
variable{H H':Hp}{h:Heap}{o:HO}
theorem eY.lt(x:eY P w H h a o):a<h.objs.size:=by
 cases o with
 |lst xs=>obtain⟨_,_,_,_,e⟩:=x;exact Rf e
 |tup xs=>obtain⟨_,_,_,p⟩:=x;exact p.lt
 |dK kvs=>obtain⟨_,_,_,_,o,_,_,e,_⟩:=x;exact Rf e
 |dT kvs=>obtain⟨_,_,_,_,o,_,_,e,_⟩:=x;exact Rf e
 |set S n=>obtain⟨o,_,_,_,e,_⟩:=x;exact Rf e
 |ins C dx fs=>obtain⟨_,_,_,e,_⟩:=x;exact Rf e
 |own y=>obtain⟨_,e⟩:=x;exact Rf e
 |xd fs=>obtain⟨_,⟨_,_,_,e,_⟩,_⟩:=x;exact Rf e
 |rng lo hi=>obtain⟨_,_,_,e⟩:=x;exact Rf e
 |frz ob u=>obtain⟨e,_⟩:=x;exact Rf e
 |tbl ps=>exact Rf (show h.get? a=some _ from x)
 |met f y=>exact Rf (show h.get? a=some _ from x)
 |ext φ=>obtain⟨_,⟨_,e⟩,_⟩:=x;exact Rf e
theorem rB{Z β:Type}{F G:Z->β->Prop}:∀{l₁:List Z}{l₂:List β},Paired F l₁ l₂->(∀a b,F a b->G a b)->Paired G l₁ l₂
 |_,_,.nil,_=>.nil
 |_,_,.cons r t,f=>.cons (f _ _ r) (rB t f)
theorem eY.stay(x:eY P w H h a o)(k:∀b u,(b=a\/H b=some (.own a))->h.get? b=some u->h'.get? b=some u)
  (ho:∀b,H b=some (.own a)->H' b=some (.own a)) (ht:∀b xs,H b=some 15e5->H' b=some 15e5):eY P w H' h' a o:=by
 induction o with
 |lst xs=>obtain⟨z,its,n,r,e⟩:=x;exact⟨z,its,n,r,k _ _ 13e6 e⟩
 |tup xs=>obtain⟨z,its,r,ob,e,c⟩:=x;exact⟨z,its,r,ob,k _ _ 13e6 e,c⟩
 |dK kvs=>obtain⟨z,y,vs,r,ob,es,ep,e,c⟩:=x;exact⟨z,y,vs,r,ob,es,ep,k _ _ 13e6 e,c⟩
 |dT kvs=>
  obtain⟨z,y,xs,r,ob,es,ep,e,c⟩:=x;exact⟨z,y,xs,rB r fun p q z=>⟨z.1,ht _ _ z.2.1,z.2.2⟩,ob,es,ep,k _ _ 13e6 e,c⟩
 |set S n=>obtain⟨ob,es,ep,t,e,c⟩:=x;exact⟨ob,es,ep,t,k _ _ 13e6 e,c⟩
 |ins C dx fs=>
  obtain⟨d,z,ne,e,mA,⟨od,es,ep,e2,c⟩,r⟩:=x;exact⟨ho _ d,z,ne,k _ _ 13e6 e,mA,⟨od,es,ep,k _ _ (.inr d) e2,c⟩,r⟩
 |own y=>obtain⟨ob,e⟩:=x;exact⟨ob,k _ _ 13e6 e⟩
 |xd fs=>obtain⟨mA,⟨od,es,ep,e,c⟩,r⟩:=x;exact⟨mA,⟨od,es,ep,k _ _ 13e6 e,c⟩,r⟩
 |rng lo hi=>obtain⟨t,u,v,e⟩:=x;exact⟨t,u,v,k _ _ 13e6 e⟩
 |frz ob u ih=>obtain⟨e,q⟩:=x;exact⟨k _ _ 13e6 e,ih q⟩
 |tbl ps=>
  have e:h.get? a=some {cls:=.none,data:=.fields ps}:=x;show h'.get? a=some {cls:=.none,data:=.fields ps};exact k a _ 13e6 e
 |met f y=>
  have e:h.get? a=some (W.methodObj 4e6 (.ref y)):=x;show h'.get? a=some (W.methodObj 4e6 (.ref y));exact k a _ 13e6 e
 |ext φ=>obtain⟨p,⟨o,e⟩,st⟩:=x;exact⟨st _ _ p fun o q=>k _ _ 13e6 q,⟨o,k _ _ 13e6 e⟩,st⟩
theorem pY.lt(x:pY P w H h)(e:H a=some o):a<h.objs.size:=(x a o e).lt
theorem pY.fresh(x:pY P w H h)(e:h.objs.size<=a):H a=none:=by
 cases q:H a with
 |none=>rfl
 |some u=>exact absurd (Rg (x.lt q) e) (Rh _)
theorem pY.kept(x:pY P w H h)(k:∀b u,h.get? b=some u->h'.get? b=some u):pY P w H h':=fun a o e=>
 (x a o e).stay (fun b u _ q=>k b u q) (fun _ q=>q) fun _ _ q=>q
theorem pY.laid(x:pY P w H h)(k:∀b u,h.get? b=some u->h'.get? b=some u)(hp:h.objs.size<=a)(new:eY P w (cQ H a o) h' a o):pY P w (cQ H a o) h':=fun b u e=>by
 have hn:=x.fresh hp;by_cases hb:b=a
 ·subst hb;rw[cf]at e;cases e;exact new
 ·rw[bF hb]at e;exact(x b u e).stay (fun c v _ q=>k c v q) (fun c q=>by rw[bF (cL q hn)];exact q) fun c xs q=>by rw[bF (cL q hn)];exact q
end
def Rd(H:Hp)(a:Addr)(u:HO):Prop:=H a=some u\/∃o,H a=some (.frz o u)
theorem Rd.ok{H:Hp}{h:Heap}{u:HO}(r:Rd H a u)(x:pY P w H h):eY P w H h a u:=by
 rcases r with r|⟨o,r⟩
 ·exact x a u r
 ·obtain⟨_,q⟩:=x a _ r;exact q
def Pu:Option HO->Prop
 |some (.lst _)=>True
 |some (.dK _)=>True
 |some (.dT _)=>True
 |some (.set _ _)=>True
 |some (.ins _ _ _)=>True
 |some (.ext _)=>True
 |_=>False
section
variable{H:Hp}{h:Heap}{x e:Addr}{o':HO}
theorem pY.write(ok:pY P w H h)(mu:Pu (H x))(he:e=x\/H e=some (.own x))(k:∀b u,b≠e->h.get? b=some u->h'.get? b=some u)(heo:∃u,h'.get? e=some u)
  (new:eY P w (cQ H x o') h' x o'):pY P w (cQ H x o') h':=fun b u q=>by
 have nown:∀c y,H c=some (.own y)->c≠x:=fun c y r z=>by subst z;rw[r]at mu;exact mu
 have ntup:∀c xs,H c=some 15e5->c≠x:=fun c xs r z=>by subst z;rw[r]at mu;exact mu
 by_cases hb:b=x
 ·subst hb;rw[cf]at q;cases q;exact new
 ·rw [bF hb] at q;by_cases hbe:b=e
  ·have q':H b=some (.own x):=by
    rcases he with z|z
    ·exact absurd (hbe.trans z) hb
    ·rw[hbe];exact z
   rw[q]at q';cases q';obtain⟨v,hv⟩:=heo;exact⟨v,by rw[hbe];exact hv⟩
  ·refine (ok b u q).stay (fun c v hc r => k c v ?_ r) (fun c r => by rw [bF (nown c b r)]; exact r) fun c xs r => by rw [bF (ntup c xs r)]; exact r
   rcases hc with rfl|hc
   ·exact hbe
   ·rintro rfl
    rcases he with z|z
    ·exact nown c b hc z
    ·rw[hc]at z;cases z;exact hb rfl
end
structure Un(fs ex:List Addr)(H H':Hp)(h h':Heap):Prop where
 keep:∀b o,h.get? b=some o->H b=none->b∉fs->b∉ex->h'.get? b=some o
 slot:∀b o,h.get? b=some o->H b=none->b∈fs->b∉ex->∃sl,h'.get? b=some {o with slots:=sl}
 free:∀b o,h.get? b=some o->H b=none->b∉ex->H' b=none
 there:∀b o,h.get? b=some o->b∉ex->∃o',h'.get? b=some o'
 tups:∀b xs,H b=some 15e5->H' b=some 15e5
 frzs:∀b o u,H b=some (.frz o u)->H' b=some (.frz o u)
 tbls:∀b ps,H b=some (.tbl ps)->∃more,H' b=some (.tbl (ps++more))
section
variable{fs fs' ex ex':List Addr}{H H1 H2:Hp}{h h1 h2:Heap}{x e:Addr}{o:HO}
theorem Un.any(u:Un fs ex H H1 h h1){ob:Obj}(q:h.get? b=some ob)(n:H b=none)(hx:b∉ex):∃sl,h1.get? b=some {ob with slots:=sl}:=by
 by_cases hb:b∈fs
 ·exact u.slot b ob q n hb hx
 ·exact⟨ob.slots,u.keep b ob q n hb hx⟩
theorem Un.kept(k:∀b u,h.get? b=some u->h'.get? b=some u):Un fs ex H H h h':=
 ⟨fun b ob q _ _ _=>k b ob q,fun b ob q _ _ _=>⟨ob.slots,k b ob q⟩,fun _ _ _ n _=>n,fun b ob q _=>⟨ob,k b ob q⟩,fun _ _ q=>q,fun _ _ _ q=>q,fun _ ps q=>⟨#[],by rw[q];simp⟩⟩
theorem Un.refl:Un fs ex H H h h:=Un.kept fun _ _ q=>q
theorem Un.laid(k:∀b u,h.get? b=some u->h'.get? b=some u)(hp:h.objs.size<=a)(hn:H a=none):Un fs ex H (cQ H a o) h h' where
 keep:=fun b u q _ _ _=>k b u q
 slot:=fun b u q _ _ _=>⟨u.slots,k b u q⟩
 free:=fun b u q n _=>by rw[bF (Ri (Rg (Rf q) hp))];exact n
 there:=fun b u q _=>⟨u,k b u q⟩
 tups:=fun b xs q=>by rw[bF (cL q hn)];exact q
 frzs:=fun b u xs q=>by rw[bF (cL q hn)];exact q
 tbls:=fun b ps q=>⟨#[],by rw[bF (cL q hn),q];simp⟩
theorem Un.write(mu:Pu (H x))(he:e=x\/H e=some (.own x))(k:∀b u,b≠e->h.get? b=some u->h'.get? b=some u)(heo:∃u,h'.get? e=some u):Un fs ex H (cQ H x o) h h':=by
 have hx:∀b,H b=none->b≠x:=fun b n z=>by subst z;rw[n]at mu;exact mu
 have hb:∀b,H b=none->b≠e:=fun b n z=>by
  subst z;rcases he with r|r
  ·exact hx b n r
  ·rw[n]at r;cases r
 have hm:∀b u,H b=some u->¬ Pu (some u)->b≠x:=fun b u q nm z=>by subst z;rw[q]at mu;exact nm mu
 refine⟨fun b u q n _ _=>k b u (hb b n) q,fun b u q n _ _=>⟨u.slots,k b u (hb b n) q⟩,fun b u q n _=>by rw[bF (hx b n)];exact n,fun b u q _=>?_,
  fun b xs q=>by rw[bF 69e1];exact q,fun b u xs q=>by rw[bF 69e1];exact q,fun b ps q=>⟨#[],by rw[bF 69e1,q];simp⟩⟩
 by_cases hbe:b=e
 ·subst hbe;exact heo
 ·exact⟨u,k b u hbe q⟩
end
def Ph(h:Heap)(H:Hp):List Addr:=(List.range h.objs.size).filter fun a=>(H a).isSome
def vH(h:Heap)(H:Hp):Heap:=W.hideAll h (Ph h H)
theorem CO(h:Heap)(H:Hp):(vH h H).objs.size=h.objs.size:=W.hideAll_size _ _
theorem F4{h:Heap}{H:Hp}{o:Obj}(e:h.get? b=some o)(n:H b=none):(vH h H).get? b=some o:=
 W.hideAll_get _ e fun hm=>by
  have q:(H b).isSome=true:=(Rj.mp hm).2;rw[n]at q;simp at q
theorem Iu{h:Heap}{H:Hp}{o:Obj}(e:(vH h H).get? b=some o):h.get? b=some o/\H b=none:=by
 have e':h.get? b=some o:=W.of_hideAll (Ph h H) e;refine⟨e',?_⟩;cases q:H b with
 |none=>rfl
 |some x=>
  have hm:b∈Ph h H:=Rj.mpr ⟨Rk.mpr (Rf e'),by simp[q]⟩;have z:(vH h H).get? b=none:=W.hideAll_none (Ph h H) hm;rw[z]at e;cases e
end L2
variable{H:L2.Hp}{vs:List L2.V}{v:L2.V}{H0:L2.Hp}
namespace L2
open PySem PySem.Spec PyProof.Rows
structure Mod(K:W.Frag)(mg:Str->Option Value)(base:Heap):Prop where
 kin:K.In base
 glob:base.Ns mainGlobals mg
 blt:∃mb,base.Ns builtinsNs mb/\∀x:Str,x ≠ "__name__" -> mb x=bootBuiltins x
 nolimit:base.NoLimit
structure Cx where
 prog:Program
 w:World
 K:W.Frag
 mg:Str->Option Value
 base:Heap
 A:Around
 N:List Str
 s₀:Shared
 H₀:Hp
 env:Env
 outer:List Env
 stack:List Env
 ex:List Addr
 fn:Str->Bool
 calm:Bool
 pn:List 3e6
 xe:Value->Shared->Prop
def qS(l:List Env):List Addr:=l.filterMap (·.frame)
abbrev Cx.fs(X:Cx):List Addr:=qS X.outer
def Pq(sc:Scope)(x:Str):Prop:=sc.names.lookup x=some .local\/sc.names.lookup x=some .cell\/sc.names.lookup x=some .free
def BH(sc:Scope)(x:Str):Prop:=sc.names.lookup x=some .local\/sc.names.lookup x=some .cell
def QG(env:Env)(h:Heap)(m:Str->Option Value)(x:Str)(u:Value):Prop:=
 (env.kindOf x=some .local/\m x=some u)\/((env.kindOf x=some .cell\/env.kindOf x=some .free)/\∃c,env.cells.lookup x=some c/\h.IsCell c (some u))
structure Cx.Ok(X:Cx):Prop where
 mod:Mod X.K X.mg 62e1
 kind:X.env.scope.kind=.function
 glob:X.env.globals=mainGlobals
 blt:X.env.builtins=builtinsNs
 above:X.s₀.heap.objs.size<=X.env.locals
 inj:∀x y c,X.env.cells.lookup x=some c->X.env.cells.lookup y=some c->x=y
 has:∀x,(X.env.kindOf x=some .cell\/X.env.kindOf x=some .free)->∃c,X.env.cells.lookup x=some c
 cab:∀x c,X.fn x=true->X.env.cells.lookup x=some c->X.s₀.heap.objs.size<=c
 hd:X.calm=true->X.A.handled=none
 frames:X.A.frames=some 59e8
 stk:X.stack=X.outer\/(X.stack=X.env::X.outer/\X.env.frame=some 41e4)
 exf:∀b∈X.ex,b≠X.env.locals/\∀x c,X.env.cells.lookup x=some c->c≠b
 bs:∀b o,X.base.get? b=some o->X.s₀.heap.get? b=some o/\X.H₀ b=none
 bsz:X.base.objs.size<=X.s₀.heap.objs.size
 noex:∀b o,X.base.get? b=some o->b∉X.ex
 exfs:∀b∈X.ex,b∉X.fs
 funs:X.s₀.heap.FunFrames 62e1 X.outer
 frf:∀b∈X.fs,X.H₀ b=none
structure bb(X:Cx)(pins:List 3e6)(B:List (Option V))(H:Hp)(s:Shared):Prop where
 ok:X.Ok
 os:s.os=X.s₀.os
 bare:AllBare s.gens
 base:Un X.fs X.ex X.H₀ H X.s₀.heap 3e0
 loc:∃m,s.heap.Ns 41e4 m/\∀(i:Nat)(x:Str)(v:V),X.N[i]?=some x->B[i]?=some (some v)->Pq 16e5 x->∃u,cE v u/\QG 2e1 3e0 m x u
 cell:∀x c,X.env.cells.lookup x=some c->∃v,s.heap.IsCell c v
 free:H 41e4=none
 freeC:∀x c,X.env.cells.lookup x=some c->H c=none
 pin:∀p∈X.pn++pins,s.heap.get? p.1=some p.2/\H p.1=none/\p.1≠X.env.locals/\p.1∉X.fs/\∀v,p.2.data≠.cell v
 hok:pY 23e6 X.w H 3e0
 len:B.length=X.N.length
section
variable{X:Cx}{B:List (Option V)}{H':Hp}
theorem Cx.Ok.nofr(ok:X.Ok){o:Obj}(e:X.base.get? b=some o):b∉X.fs:=fun hb=>by
 have:=(ok.funs.mem hb).1;rw[e]at this;cases this
theorem bb.bs(I:bb X pins B H s):∀b o,X.base.get? b=some o->s.heap.get? b=some o/\H b=none:=fun b o e=>
 ⟨I.base.keep b o (I.ok.bs b o e).1 (I.ok.bs b o e).2 (I.ok.nofr e) (I.ok.noex b o e),I.base.free b o (I.ok.bs b o e).1 (I.ok.bs b o e).2 (I.ok.noex b o e)⟩
theorem bb.bk(I:bb X pins B H s):∀b o,X.base.get? b=some o->s.heap.get? b=some o:=fun b o e=>(I.bs b o e).1
theorem bb.mod(I:bb X pins B H s):Mod X.K X.mg 62e1:=I.ok.mod
theorem bb.kIn(I:bb X pins B H s):X.K.In 3e0:=I.ok.mod.kin.keeps I.bk
theorem bb.lt(I:bb X pins B H s):X.env.locals<s.heap.objs.size:=let ⟨_,hn,_⟩:=I.loc;hn.lt
theorem bb.sz(I:bb X pins B H s):X.s₀.heap.objs.size<=s.heap.objs.size:=Rm I.ok.above (Rn I.lt)
theorem bb.nofs(I:bb X pins B H s)(h:s.heap.objs.size<=a):a∉X.fs:=fun hb=>by
 obtain⟨_,o,ho,_⟩:=I.ok.funs.mem hb;exact absurd (Rg (Rf ho) (Rm I.sz h)) (Rh _)
theorem bb.cne(I:bb X pins B H s):∀x c,X.env.cells.lookup x=some c->c≠X.env.locals:=fun x c e z=>by
 obtain⟨v,o,ho,hd⟩:=I.cell x c e;obtain⟨m,⟨o',es,ep,ho',hd',_⟩,_⟩:=I.loc;rw[z,ho']at ho;cases ho;rw[hd']at hd;cases hd
theorem bb.funs(I:bb X pins B H s):s.heap.FunFrames 62e1 X.outer:=by
 have all:∀(l:List Env),(∀b∈qS l,b∈X.fs)->X.s₀.heap.FunFrames 62e1 l->s.heap.FunFrames 62e1 l:=by
  intro l
  induction l with
  |nil=>intro _ _;trivial
  |cons env r ih=>
   intro hs hl;obtain⟨hk,⟨L,o,hf,hn,ho,hd⟩,hr⟩:=hl;have hL:L∈X.fs:=hs L (by unfold qS;rw[Rp,hf];exact Rq);obtain⟨sl,e⟩:=I.base.slot L o ho (I.ok.frf L hL) hL fun z=>I.ok.exfs L z hL;exact⟨hk,⟨L,_,hf,hn,e,hd⟩,ih (fun b hb=>hs b (by unfold qS;rw[Rp,hf];exact Rt _ hb)) hr⟩
 exact all X.outer (fun _ hb=>hb) I.ok.funs
theorem bb.stack(I:bb X pins B H s):s.heap.FunFrames 62e1 59e8:=by
 rcases I.ok.stk with e|⟨e,hf⟩
 ·rw[e];exact I.funs
 ·rw[e];obtain⟨m,hn,_⟩:=I.loc;refine .cons (by rw[I.ok.kind];decide) hf hn ?_ I.funs;exact Heap.get?_none_of_le (Rm I.ok.bsz I.ok.above)
theorem bb.stkSub(I:bb X pins B H s):∀b∈qS 59e8,b∈X.env.locals::X.fs:=fun b hb=>by
 rcases I.ok.stk with e|⟨e,hf⟩
 ·rw[e]at hb;exact Rt _ hb
 ·rw[e]at hb;unfold qS at hb;rw[Rp,hf]at hb;exact hb
theorem bb.stkFree(I:bb X pins B H s):∀b∈qS 59e8,H b=none:=fun b hb=>by
 rcases Ru.mp (I.stkSub b hb) with e|hb
 ·rw[e];exact I.free
 ·obtain⟨_,o,ho,_⟩:=I.ok.funs.mem hb;exact I.base.free b o ho (I.ok.frf b hb) fun z=>I.ok.exfs b z hb
theorem bb.step{d':Drawn}(I:bb X pins B H s)(hch:∀b∈ch,(b∈X.ex\/X.s₀.heap.objs.size<=b)/\b≠X.env.locals/\(∀x c,X.env.cells.lookup x=some c->c≠b)/\∀p∈X.pn++pins,p.1≠b)(keep:∀b o,b≠X.env.locals->b∉X.fs->b∉ch->s.heap.get? b=some o->H b=none->h'.get? b=some o)(slot:∀b o,b≠X.env.locals->b∈X.fs->b∉ch->s.heap.get? b=some o->H b=none->∃sl,h'.get? b=some {o with slots:=sl})(free:∀b o,b∉ch->s.heap.get? b=some o->H b=none->H' b=none)(there:∀b o,b∉ch->s.heap.get? b=some o->∃o',h'.get? b=some o')(tups:∀b xs,H b=some 15e5->H' b=some 15e5)(frzs:∀b o u,H b=some (.frz o u)->H' b=some (.frz o u))(tbls:∀b ps,H b=some (.tbl ps)->∃more,H' b=some (.tbl (ps++more)))(ns:∀m,s.heap.Ns 41e4 m->h'.Ns 41e4 m)(hok:pY 23e6 X.w H' h')(hg:AllBare g'):
  bb X pins B H' {s with heap:=h',gens:=g',drawn:=d',toks:=t'}:=by
 have neL:∀b o,X.s₀.heap.get? b=some o->b≠X.env.locals:=fun b o e=>Ri 40e4
 have neC:∀b o,X.s₀.heap.get? b=some o->b∉X.ex->b∉ch:=fun b o e hx hb=>by
  rcases (hch b hb).1 with z|z
  ·exact hx z
  ·exact absurd (Rg 73e5 z) (Rh _)
 have cellK:∀x c,X.env.cells.lookup x=some c->∀v,s.heap.IsCell c v->h'.IsCell c v:=fun x c e v ⟨o,ho,hd⟩=>by
  have nch:c∉ch:=fun z=>(hch c z).2.2.1 x c e rfl;by_cases hc:c∈X.fs
  ·obtain⟨sl,q⟩:=slot c o (I.cne x c e) hc nch ho (I.freeC x c e);exact⟨_,q,hd⟩
  ·exact⟨o,keep c o (I.cne x c e) hc nch ho (I.freeC x c e),hd⟩
 refine⟨I.ok,I.os,hg,⟨fun b o e n hb hx=>?_,fun b o e n hb hx=>?_,fun b o e n hx=>?_,fun b o e hx=>?_,fun b xs e=>tups b xs (I.base.tups b xs e),fun b o xs e=>frzs b o xs (I.base.frzs b o xs e),fun b ps e=>?_⟩,?_,fun x c e=>?_,?_,fun x c e=>?_,fun p hp=>?_,hok,I.len⟩
 ·exact keep b o (neL b o e) hb 69e2 49e1 54e7
 ·obtain⟨sl,e1⟩:=I.base.slot b o e n hb hx;obtain⟨sl',e2⟩:=slot b _ (neL b o e) hb 69e2 e1 54e7;exact⟨sl',e2⟩
 ·obtain⟨o',e1⟩:=I.base.there b o e hx;exact free b o' 69e2 e1 54e7
 ·obtain⟨o',e1⟩:=I.base.there b o e hx;exact there b o' 69e2 e1
 ·obtain⟨m1,e1⟩:=I.base.tbls b ps e;obtain⟨m2,e2⟩:=tbls b _ e1;exact⟨m1++m2,by rw[e2,Array.append_assoc]⟩
 ·obtain ⟨m, hn, hl⟩ := I.loc;refine⟨m,ns m hn,fun i x v e1 e2 e3=>?_⟩;obtain⟨u,r,l⟩:=hl i x v e1 e2 e3;refine⟨u,r,?_⟩;rcases l with l|⟨k,c,e,z⟩
  ·exact .inl l
  ·exact .inr ⟨k,c,e,cellK x c e _ z⟩
 ·obtain⟨v,z⟩:=I.cell x c e;exact⟨v,cellK x c e v z⟩
 ·obtain⟨m,⟨o,_,_,ho,_⟩,_⟩:=I.loc;exact free _ o (fun z=>(hch _ z).2.1 rfl) ho I.free
 ·obtain⟨v,o,ho,hd⟩:=I.cell x c e;exact free c o (fun z=>(hch c z).2.2.1 x c e rfl) ho (I.freeC x c e)
 ·obtain⟨e,n,ne,nf,d⟩:=I.pin p hp;have nch:p.1∉ch:=fun z=>(hch p.1 z).2.2.2 p hp rfl;exact⟨keep p.1 p.2 ne nf nch e n,free p.1 p.2 nch e n,ne,nf,d⟩
theorem bb.un(I:bb X pins B H s)(u:Un X.fs [] H H' 3e0 h')(hok:pY 23e6 X.w H' h'):bb X pins B H' {s with heap:=h',toks:=t'}:=by
 obtain⟨m,⟨o,es,ep,ho,r⟩,_⟩:=id I.loc;obtain⟨sl,hL⟩:=u.any ho I.free 0e6
 exact I.step (g':=s.gens) (d':=s.drawn) (ch:=[]) (fun _ z=>nomatch z) (fun b o _ hb _ e n=>u.keep b o e n hb 0e6) (fun b o _ hb _ e n=>u.slot b o e n hb 0e6) (fun b o _ e n=>u.free b o e n 0e6) (fun b o _ e=>u.there b o e 0e6) u.tups u.frzs u.tbls (fun m' hm=>by
  obtain⟨o',es',ep',ho',r'⟩:=hm;rw[ho]at ho';cases ho'
  exact⟨_,es',ep',hL,r'⟩) hok I.bare
theorem bb.call{d':Drawn}(I:bb X pins B H s)(u:Un (qS 59e8) ch H H' 3e0 h')(hok:pY 23e6 X.w H' h')(hg:AllBare g')(hch:∀b∈ch,(b∈X.ex\/X.s₀.heap.objs.size<=b)/\b≠X.env.locals/\(∀x c,X.env.cells.lookup x=some c->c≠b)/\∀p∈X.pn++pins,p.1≠b):
  bb X pins B H' {s with heap:=h',gens:=g',drawn:=d',toks:=t'}:=by
 obtain⟨m,⟨o,es,ep,ho,r⟩,_⟩:=id I.loc;obtain⟨sl,hL⟩:=u.any ho I.free fun z=>(hch _ z).2.1 rfl
 exact I.step (ch:=ch) hch (fun b o hL hb hc e n=>u.keep b o e n (fun z=>(Ru.mp (I.stkSub b z)).elim hL hb) hc) (fun b o _ _ hc e n=>u.any e n hc) (fun b o hc e n=>u.free b o e n hc) (fun b o hc e=>u.there b o e hc) u.tups u.frzs u.tbls (fun m' hm=>by
  obtain⟨o',es',ep',ho',r'⟩:=hm;rw[ho]at ho';cases ho'
  exact⟨_,es',ep',hL,r'⟩) hok hg
theorem bb.turned(I:bb X pins B H s)(k:∀b o,b≠it->s.heap.get? b=some o->h'.get? b=some o)(hn:H it=none)(hL:it≠X.env.locals)(h1:it∈X.ex\/X.s₀.heap.objs.size<=it)(h2:∀x c,X.env.cells.lookup x=some c->c≠it)(h3:∀p∈X.pn++pins,p.1≠it):bb X pins B H {s with heap:=h',toks:=t'}:=by
 have nit:∀b u,H b=some u->b≠it:=fun b u e z=>by rw[z,hn]at e;cases e
 refine I.step (g':=s.gens) (d':=s.drawn) (ch:=[it]) 69e3 (fun b o _ _ hc e _=>k b o 54e8 e) (fun b o _ _ hc e _=>⟨o.slots,k b o 54e8 e⟩) (fun _ _ _ _ n=>n)
  (fun b o hc e=>⟨o,k b o 54e8 e⟩) 34e7 (fun _ _ _ e=>e) 64e5 (fun m hm=>?_) (fun b u e=>?_) I.bare
 ·have e : b = it := by simpa using hb
  subst e;exact⟨h1,hL,h2,h3⟩
 ·obtain⟨o,es,ep,ho,r⟩:=hm;exact⟨o,es,ep,k _ o (Rv hL) ho,r⟩
 ·refine (I.hok b u e).stay (fun c v hc q => k c v ?_ q) (fun _ q => q) fun _ _ q => q;rcases hc with z|z
  ·rw[z];exact nit b u e
  ·exact nit c _ z
theorem bb.tok(I:bb X pins B H s)(t:Nat):bb X pins B H {s with toks:=t}:=I.un (h':=3e0) (t':=t) Un.refl I.hok
theorem bb.kept(I:bb X pins B H s)(k:∀b u,s.heap.get? b=some u->h'.get? b=some u):bb X pins B H {s with heap:=h',toks:=t'}:=I.un (Un.kept k) (I.hok.kept k)
theorem bb.laid{o:HO}(I:bb X pins B H s)(k:∀b u,s.heap.get? b=some u->h'.get? b=some u)(hp:s.heap.objs.size<=a)(new:eY 23e6 X.w (cQ H a o) h' a o):
  bb X pins B (cQ H a o) {s with heap:=h',toks:=t'}:=I.un (Un.laid k hp (I.hok.fresh hp)) (I.hok.laid k hp new)
theorem bb.write{x e:Addr}{o:HO}(I:bb X pins B H s)(mu:Pu (H x))(he:e=x\/H e=some (.own x))(k:∀b u,b≠e->s.heap.get? b=some u->h'.get? b=some u)(heo:∃u,h'.get? e=some u)(new:eY 23e6 X.w (cQ H x o) h' x o):bb X pins B (cQ H x o) {s with heap:=h',toks:=t'}:=I.un (Un.write mu he k heo) (I.hok.write mu he k heo new)
theorem bb.pins_of{pins':List 3e6}(I:bb X pins B H s)(h:∀p∈pins',s.heap.get? p.1=some p.2/\H p.1=none/\p.1≠X.env.locals/\p.1∉X.fs/\∀v,p.2.data≠.cell v):bb X pins' B H s:=
 ⟨I.ok,I.os,I.bare,I.base,I.loc,I.cell,I.free,I.freeC,fun p hp=>(Rw.mp hp).elim (fun z=>I.pin p (Rx _ z)) (h p),I.hok,I.len⟩
theorem yu(hN:N.Nodup)(a:N[i]?=some x)(b:N[j]?=some x):i=j:=by
 obtain⟨h1,e1⟩:=Ry.mp a;obtain⟨h2,e2⟩:=Ry.mp b;exact(Rz hN).mp 73e6
theorem uR{M:Model}{Q:Unit->Shared->Prop}(I:bb X pins B H s)(hN:X.N.Nodup)(hi:X.N[i]?=some x)(hx:BH 16e5 x)(r:cE v u)(h:∀s',bb X pins 37e8 H s'->(∃a,Heap.SameBut a 3e0 69e0/\(a=X.env.locals\/X.env.cells.lookup x=some a))->Q () s')(hf:X.fn x=true\/X.env.scope.names.lookup x=some .local:=by first|exact .inl rfl|exact .inr rfl|assumption):wpAny M A (storeName 2e1 x u) Q E s:=by
 obtain⟨m,hn,hl⟩:=id I.loc;have hcls:(X.env.scope.kind == .class || (X.env.scope.kind == .module&&X.env.locals != X.env.globals))=false:=by rw[I.ok.kind];rfl
 have hiσ:i<B.length:=by rw[I.len];exact(Ry.mp hi).1
 have cne:=I.cne
 have tracked:∀{a:Addr}{h':Heap},(∃o,s.heap.get? a=some o/\H a=none)->Heap.SameBut a 3e0 h'->pY 23e6 X.w H h':=fun {a h'} ha hs b ob e=>by
  obtain⟨_,_,hfree⟩:=ha;refine(I.hok b ob e).stay (fun c w' hc q=>(hs.2 c ?_).trans q) (fun _ q=>q) fun _ _ q=>q
  rintro rfl
  rcases hc with rfl|hc
  ·rw[hfree]at e;cases e
  ·rw[hfree]at hc;cases hc
 rcases hx with hk|hk
 ·refine wpAny_storeName_local hk hn (fun h' hn' hs => ?_) hcls;obtain⟨oL,_,_,hoL,_⟩:=id hn;refine h _ ⟨I.ok,I.os,I.bare,⟨fun b o e n hb hx=>?_,fun b o e n hb hx=>?_,I.base.free,fun b o e hx=>?_,I.base.tups,I.base.frzs,I.base.tbls⟩,⟨_,hn',fun j y v' e1 e2 e3=>?_⟩,fun y c e=>?_,I.free,I.freeC,fun p hp=>?_,tracked ⟨oL,hoL,I.free⟩ hs,by simpa using I.len⟩ ⟨_,hs,.inl rfl⟩
  ·exact(hs.2 b (Ri 40e4)).trans 49e1
  ·obtain⟨sl,e1⟩:=I.base.slot b o e n hb hx;exact⟨sl,(hs.2 b (Ri 40e4)).trans e1⟩
  ·obtain⟨o',e1⟩:=I.base.there b o e hx;exact⟨o',(hs.2 b (Ri 40e4)).trans e1⟩
  ·by_cases hj : j = i
   ·subst hj;rw[hi]at e1;cases e1;rw[RA hiσ]at e2;cases e2;exact⟨u,r,.inl ⟨hk,by simp⟩⟩
   ·rw [RB (Rv hj)] at e2;obtain⟨u',r',q⟩:=hl j y v' e1 e2 e3;refine⟨u',r',?_⟩;rcases q with⟨k,e⟩|⟨k,c,e,z⟩
    ·refine .inl ⟨k,?_⟩;have:y≠x:=fun e=>hj (yu hN e1 (e ▸ hi));simp[this,e]
    ·exact .inr ⟨k,c,e,z.sameBut hs (cne y c e)⟩
  ·obtain⟨w',z⟩:=I.cell y c e;exact⟨w',z.sameBut hs (cne y c e)⟩
  ·obtain⟨e,n,ne,nf,d⟩:=I.pin p hp;exact⟨(hs.2 p.1 ne).trans e,n,ne,nf,d⟩
 ·have hfn:X.fn x=true:=by
   rcases hf with z|z
   ·exact z
   ·rw[z]at hk;cases hk
  obtain⟨c,hc⟩:=I.ok.has x (.inl hk);obtain⟨w',z⟩:=I.cell x c hc;refine wpAny_storeName_cell I.ok.kind hk hc z (fun h' hc' hs=>?_);obtain⟨oc,hoc,hocd⟩:=id z;refine h {s with heap:=h'} ⟨I.ok,I.os,I.bare,⟨fun b o e n hb hx=>?_,fun b o e n hb hx=>?_,I.base.free,fun b o e hx=>?_,I.base.tups,I.base.frzs,I.base.tbls⟩,⟨m,hn.sameBut hs (Rv (cne x c hc)),fun j y v' e1 e2 e3=>?_⟩,fun y c' e=>?_,I.free,I.freeC,fun p hp=>?_,tracked ⟨oc,hoc,I.freeC x c hc⟩ hs,by simpa using I.len⟩ ⟨c,hs,.inr hc⟩
  ·exact(hs.2 b 30e7).trans 49e1
  ·obtain⟨sl,e1⟩:=I.base.slot b o e n hb hx;exact⟨sl,(hs.2 b 30e7).trans e1⟩
  ·obtain⟨o',e1⟩:=I.base.there b o e hx;exact⟨o',(hs.2 b 30e7).trans e1⟩
  ·by_cases hj : j = i
   ·subst hj;rw[hi]at e1;cases e1;rw[RA hiσ]at e2;cases e2;exact⟨u,r,.inr ⟨.inl hk,c,hc,hc'⟩⟩
   ·rw [RB (Rv hj)] at e2;obtain⟨u',r',q⟩:=hl j y v' e1 e2 e3;refine⟨u',r',?_⟩;rcases q with q|⟨k,c',e,z'⟩
    ·exact .inl q
    ·refine .inr ⟨k, c', e, z'.sameBut hs ?_⟩
     rintro rfl
     exact hj (yu hN e1 (I.ok.inj _ _ _ e hc ▸ hi))
  ·by_cases hcc : c' = c
   ·subst hcc;exact⟨_,hc'⟩
   ·obtain⟨w2,z2⟩:=I.cell y c' e;exact⟨w2,z2.sameBut hs hcc⟩
  ·obtain⟨e,n,ne,nf,d⟩:=I.pin p hp;refine⟨(hs.2 p.1 ?_).trans e,n,ne,nf,d⟩;intro q;rw[q,hoc]at e;have q':oc=p.2:=Q7 e;exact d w' (by rw[<- q'];exact hocd)
theorem pb{M:Model}{Q:Unit->Shared->Prop}(I:bb X pins B H s)(hN:X.N.Nodup)(hi:X.N[i]?=some x)(hx:BH 16e5 x)(r:cE v u)(h:∀s',bb X pins 37e8 H s'->Q () s')(hf:X.fn x=true\/X.env.scope.names.lookup x=some .local:=by first|exact .inl rfl|exact .inr rfl|assumption):wpAny M A (storeName 2e1 x u) Q E s:=
 uR I hN hi hx r (fun s' I' _=>h s' I') hf
theorem bb.call'(I:bb X pins B H s)(ho:s'.os=s.os)(u:Un (qS 59e8) ch H H' 3e0 69e0)(hok:pY 23e6 X.w H' 69e0)(hg:AllBare s'.gens)(hch:∀b∈ch,(b∈X.ex\/X.s₀.heap.objs.size<=b)/\b≠X.env.locals/\(∀x c,X.env.cells.lookup x=some c->c≠b)/\∀p∈X.pn++pins,p.1≠b):bb X pins B H' s':=by
 obtain⟨h',g',d',t',o'⟩:=s';have e:o'=s.os:=ho;subst e;exact I.call (g':=g') (t':=t') (d':=d') u hok hg hch
end
abbrev XK:=Value->Option Addr->Hp->Prop
abbrev St:=List (Option V)
abbrev VK:=V->Hp->Prop
abbrev TE:=St->Hp->VK->Prop
abbrev TT:=St->Hp->(Bool->Hp->Prop)->Prop
abbrev TA:=St->Hp->(List V->Hp->Prop)->Prop
structure qf where
 nx:St->Hp->Prop
 rt:VK
 bk:St->Hp->Prop:=fun _ _=>False
 ct:St->Hp->Prop:=fun _ _=>False
abbrev TS:=qf->St->Hp->Prop
def EP(X:Cx)(pins:List 3e6)(B:St)(Q:VK)(u:Value)(s':Shared):Prop:=∃v H',bb X pins B H' s'/\cE v u/\Q v H'
def TP(X:Cx)(pins:List 3e6)(B:St)(Q:Bool->Hp->Prop)(b:Bool)(s':Shared):Prop:=∃H',bb X pins B H' s'/\Q b H'
def AP(X:Cx)(pins:List 3e6)(B:St)(Q:List V->Hp->Prop)(us:List Value)(s':Shared):Prop:=∃vs H',bb X pins B H' s'/\bt vs us/\Q vs H'
def SP(X:Cx)(pins:List 3e6)(D:qf)(f:Flow)(s':Shared):Prop:=
 match f with
 |.next=>∃B' H',bb X pins B' H' s'/\D.nx B' H'
 |.brk=>∃B' H',bb X pins B' H' s'/\D.bk B' H'
 |.cont=>∃B' H',bb X pins B' H' s'/\D.ct B' H'
 |.ret u=>∃v B' H',bb X pins B' H' s'/\cE v u/\D.rt v H'
def PE(X:Cx)(e:Expr)(t:TE):Prop:=
 ∀(pins:List 3e6)(s:Shared)(B:St)(H:Hp)(Q:VK),bb X pins B H s->t B H Q->wpAny 1e1 X.A (eval e 2e1) 10e8 X.xe s
def PT(X:Cx)(e:Expr)(t:TT):Prop:=
 ∀(pins:List 3e6)(s:Shared)(B:St)(H:Hp)(Q:Bool->Hp->Prop),bb X pins B H s->t B H Q->wpAny 1e1 X.A (isTrue e 2e1 (eval e 2e1)) 64e6 X.xe s
def PW(X:Cx)(e:Expr)(t:TT):Prop:=
 ∀(whole:Sem Value)(pins:List 3e6)(s:Shared)(B:St)(H:Hp)(Q:Bool->Hp->Prop),bb X pins B H s->t B H Q->wpAny 1e1 X.A (isTrue e 2e1 whole) 64e6 X.xe s
theorem PW.pt{X:Cx}{t:TT}(h:PW X e t):PT X e t:=h _
def PA(X:Cx)(es:List Expr)(t:TA):Prop:=
 ∀(pos:Pos)(pins:List 3e6)(s:Shared)(B:St)(H:Hp)(Q:List V->Hp->Prop),bb X pins B H s->t B H Q->wpAny 1e1 X.A (spliced (backTo pos 7e7)) (AP X pins B Q) X.xe s
def PS(X:Cx)(st:Stmt)(t:TS):Prop:=
 ∀(pins:List 3e6)(s:Shared)(B:St)(H:Hp)(D:qf),bb X pins B H s->t D B H->wpAny 1e1 X.A (exec st 2e1) (SP X pins D) X.xe s
def kn(X:Cx)(st:List Stmt)(t:TS):Prop:=
 ∀(pins:List 3e6)(s:Shared)(B:St)(H:Hp)(D:qf),bb X pins B H s->t D B H->wpAny 1e1 X.A (execs st 2e1) (SP X pins D) X.xe s
theorem dM{Z:Type}{t:Sem Z}{Q Q':Z->Shared->Prop}{M:Model}(h:wpAny M A t Q E s)(hQ:∀a s,Q a s->Q' a s):wpAny M A t Q' E s:=RC h hQ fun _ _ x=>x
end L2
variable{B:L2.St}{te:L2.TE}{ta:L2.TA}
namespace L2
open PySem PySem.Spec PyProof.Rows
section
variable{X:Cx}
def NH(i:Nat):TE:=fun B H Q=>∃v,B[i]?=some (some v)/\Q v H
def tC(v:V):TE:=fun _ H Q=>Q v H
theorem LC(hN:X.N[i]?=some x)(hv:Pq 16e5 x)(hd:(x == ("__debug__" : Str))=false:=by decide)(hcd:(x == ("__classdict__" : Str))=false:=by decide):PE X 19e6 (NH i):=by
 intro pins s B H Q I h;obtain⟨v,e,h⟩:=h;obtain⟨m,hn,hl⟩:=I.loc;obtain⟨u,r,l⟩:=hl i x v hN e hv;have fin:EP X pins B Q u s:=⟨v,H,I,r,h⟩;rcases l with⟨hk,hm⟩|⟨hk,c,hc,hcell⟩
 ·exact wpAny_Name (wpAny_loadName_local I.ok.kind hk hn hm fin) hd
 ·rcases hk with hk | hk
  ·exact wpAny_Name (wpAny_loadName_cell I.ok.kind hk hc hcell fin) hd
  ·exact wpAny_Name (wpAny_loadName_free I.ok.kind hk hc hcell fin hcd) hd
theorem LK{i j pos}:PE X (.Constant 15e8 j pos) (tC 15e8):=fun _ _ _ H _ I h=>wpAny_Constant_int ⟨.int i,H,I.tok _,⟨_,rfl⟩,h⟩
theorem OW{b j pos}:PE X (.Constant (.bool b) j pos) (tC 37e0):=fun _ _ _ H _ I h=>Constant_bool ⟨.bl b,H,I,rfl,h⟩
theorem LI{j pos}:PE X (.Constant .none j pos) (tC .non):=fun _ _ _ H _ I h=>Constant_none ⟨.non,H,I,rfl,h⟩
theorem LF{x j pos}:PE X (.Constant 41e6 j pos) (tC 41e6):=fun _ _ _ H _ I h=>Calls.Constant_str ⟨.str x,H,I.tok _,⟨_,rfl⟩,h⟩
def Gl(X:Cx)(x:Str):Prop:=X.env.kindOf x=some .globalImplicit
theorem oV(I:bb X pins B H s)(hg:Gl X x)(hm:X.mg x=some u)(h:Q u s)(hd:(x == ("__debug__" : Str))=false:=by decide):wpAny 1e1 X.A (eval 19e6 2e1) Q E s:=
 Calls.Name_function_global I.ok.kind hg (Calls.loadGlobal_global 53e4 hm h) hd
theorem nZ(I:bb X pins B H s)(hg:Gl X x)(hm:X.mg x=none)(hv:bootBuiltins x=some u)(h:Q u s)(hn:x ≠ "__name__" := by decide)(hd:(x == ("__debug__" : Str))=false:=by decide):wpAny 1e1 X.A (eval 19e6 2e1) Q E s:=by
 obtain⟨mb,h1,h2⟩:=I.mod.blt;exact Calls.Name_function_global I.ok.kind hg (Calls.loadGlobal_builtin 53e4 hm (by rw[I.ok.blt];exact h1.keeps I.bk) ((h2 x hn).trans hv) h) hd
theorem Bk(hg:Gl X x)(hm:X.mg x=some u)(r:cE v u)(hd:(x == ("__debug__" : Str))=false:=by decide):PE X 19e6 (tC v):=
 fun _ _ _ H _ I h=>oV I hg hm ⟨v,H,I,r,h⟩ hd
theorem Bl(hg:Gl X x)(hm:X.mg x=none)(hv:bootBuiltins x=some u)(r:cE v u)(hn:x ≠ "__name__" := by decide)(hd:(x == ("__debug__" : Str))=false:=by decide):PE X 19e6 (tC v):=
 fun _ _ _ H _ I h=>nZ I hg hm hv ⟨v,H,I,r,h⟩ hn hd
variable{a b:Expr}{ta tb:TE}
variable{tA tB':TT}
def Qh(t u:TT):TT:=fun B H Q=>t B H fun c H1=>if c=true then u B H1 Q else Q false H1
def QW(t u:TT):TT:=fun B H Q=>t B H fun c H1=>if c=true then Q true H1 else u B H1 Q
def Qb(t:TT):TT:=fun B H Q=>t B H fun c H1=>Q (!c) H1
theorem HH(ha:PT X a tA):PW X (.BoolOp .And [a] pos) tA:=by
 intro wh pins s B H Q I h;refine isTrue_and 58e9;cases c with
 |true=>exact isTrue_and_nil e
 |false=>exact e
theorem Lm(ha:PT X a tA):PW X (.BoolOp .Or [a] pos) tA:=by
 intro wh pins s B H Q I h;refine isTrue_or 58e9;cases c with
 |false=>exact isTrue_or_nil e
 |true=>exact e
theorem Ln(ha:PT X a tA)(hb:PW X 14e6 tB'):PW X 13e2 (Qh tA tB'):=by
 intro wh pins s B H Q I h;refine isTrue_and 66e1;cases c with
 |true=>exact hb wh pins s1 B H1 Q I1 q1
 |false=>exact⟨H1,I1,q1⟩
theorem OQ(ha:PT X a tA)(hb:PW X 49e2 tB'):PW X 41e7 (QW tA tB'):=by
 intro wh pins s B H Q I h;refine isTrue_or 66e1;cases c with
 |true=>exact⟨H1,I1,q1⟩
 |false=>exact hb wh pins s1 B H1 Q I1 q1
theorem Lo(ha:PT X a tA):PT X 24e5 (Qb tA):=by
 intro pins s B H Q I h;exact isTrue_not (ha pins s B H (fun c H1=>Q (!c) H1) I h)
def OA(ta tb:TE):TE:=fun B H Q=>ta B H fun x H1=>∃c,x=.bl c/\if c=true then tb B H1 Q else Q 4e4 H1
def Ou(ta:TE):TE:=fun B H Q=>ta B H fun x H1=>∃c,x=.bl c/\Q (.bl (!c)) H1
theorem LG{op}{t:TE}(h:PE X a t):PE X (.BoolOp op [a] pos) t:=fun pins s B H Q I hw=>BoolOp_one (h pins s B H Q I hw)
theorem LL(ha:PE X a ta)(hb:PE X 14e6 tb):PE X 13e2 (OA ta tb):=by
 intro pins s B H Q I h;refine BoolOp_and 59e0;obtain⟨c,rfl,q1⟩:=q1;cases r1;refine RD ?_;cases c with
 |true=>exact hb pins s1 B H1 Q I1 q1
 |false=>exact⟨.bl false,H1,I1,rfl,q1⟩
theorem LH(ha:PE X a ta):PE X 24e5 (Ou ta):=by
 intro pins s B H Q I h;refine UnaryOp_ 59e0;obtain⟨c,rfl,q1⟩:=q1;cases r1;exact not_of (RD ⟨.bl (!c),H1,I1,rfl,q1⟩)
def QX(t:TT)(ta tb:TE):TE:=fun B H Q=>t B H fun c H1=>if c=true then ta B H1 Q else tb B H1 Q
theorem Fw(hc:PT X c tA)(ha:PE X a ta)(hb:PE X b tb):PE X 73e7 (QX tA ta tb):=by
 intro pins s B H Q I h;refine wpAny_IfExp 43e7;cases d with
 |true=>exact ha pins s1 B H1 Q I1 q1
 |false=>exact hb pins s1 B H1 Q I1 q1
end
def gW(K:W.Frag)(H:Hp)(a:Addr)(xs:List V):Prop:=
 Rd H a 3e1 \/
  ∃(o:Obj) (its:Array Value) (n:Nat),K.lookup a=some o/\o.cls=.type "list" /\ o.dict=none/\o.data=.seq its n/\its.size<=sizeLine/\bt xs 76e9
def fS(K:W.Frag)(H:Hp)(a:Addr)(xs:List V):Prop:=
 Rd H a 15e5 \/
  ∃(o:Obj) (its:Array Value) (n:Nat),K.lookup a=some o/\o.cls=.type "tuple" /\ o.data=.seq its n/\its.size<=sizeLine/\bt xs 76e9
def QE:Value->Option V
 |.none=>some .non
 |.bool b=>some 37e0
 |.int i _=>some 15e8
 |.str x _=>some 41e6
 |.bytes b _=>some (.byt b)
 |.float b _=>some (.flt b)
 |.ref a=>some 19e0
 |.type n=>some (.ty n)
 |_=>none
theorem cE.abs{x:V}(r:cE x u):QE u=some x:=by
 cases x with
 |non=>cases r;rfl
 |bl _=>cases r;rfl
 |int _=>obtain⟨t,rfl⟩:=r;rfl
 |str _=>obtain⟨t,rfl⟩:=r;rfl
 |byt _=>obtain⟨t,rfl⟩:=r;rfl
 |flt _=>obtain⟨t,rfl⟩:=r;rfl
 |ref _=>cases r;rfl
 |ty _=>cases r;rfl
theorem cE.inj{x y:V}(r:cE x u)(q:cE y u):x=y:=Q7 (r.abs.symm.trans q.abs)
theorem bt.inj:∀{xs ys:List V}{us:List Value},bt xs us->bt ys us->xs=ys
 |_,_,_,.nil,.nil=>rfl
 |_,_,_,.cons r t,.cons r' t'=>by rw[r.inj r',bt.inj t t']
section
variable{X:Cx}{xs ys:List V}
theorem gW.of(h:H a=some 3e1):gW K H a xs:=.inl (.inl h)
theorem fS.of(h:H a=some 15e5):fS K H a xs:=.inl (.inl h)
theorem bb.list(I:bb X pins B H s)(h:gW X.K H a xs):∃its:List Value,bt xs its/\PlainL 3e0 a 2e7/\xs.length<=sizeLine:=by
 rcases h with h|⟨o,its,n,hk,hc,hd,hs,hz,r⟩
 ·obtain⟨z,its,n,r,e⟩:=h.ok I.hok;exact⟨its,r,⟨_,n,e,rfl,rfl,rfl⟩,z⟩
 ·refine⟨76e9,r,⟨o,n,I.kIn a o hk,hc,hd,by simpa using hs⟩,?_⟩;have e:=32e3;dsimp[RE]at e;omega
theorem bb.tuple(I:bb X pins B H s)(h:fS X.K H a xs):∃its:List Value,bt xs its/\IsTup 3e0 a 2e7/\xs.length<=sizeLine:=by
 rcases h with h|⟨o,its,n,hk,hc,hs,hz,r⟩
 ·obtain⟨z,its,r,p⟩:=h.ok I.hok;exact⟨its,r,p,z⟩
 ·refine⟨76e9,r,⟨o,I.kIn a o hk,hc,n,by simpa using hs⟩,?_⟩;have e:=32e3;dsimp[RE]at e;omega
theorem bb.list_inj(I:bb X pins B H s)(h:gW X.K H a xs)(h':gW X.K H a ys):xs=ys:=by
 obtain⟨its,r,⟨o,n,e,_,_,d⟩,_⟩:=I.list h;obtain⟨its',r',⟨o',n',e',_,_,d'⟩,_⟩:=I.list h';rw[e]at e';cases e';rw[d]at d';injection d' with d1 _
 have:its=its':=by simpa using RF Array.toList d1
 subst this;exact r.inj r'
theorem bb.tuple_inj(I:bb X pins B H s)(h:fS X.K H a xs)(h':fS X.K H a ys):xs=ys:=by
 obtain⟨its,r,⟨o,e,_,n,d⟩,_⟩:=I.tuple h;obtain⟨its',r',⟨o',e',_,n',d'⟩,_⟩:=I.tuple h';rw[e]at e';cases e';rw[d]at d';injection d' with d1 _
 have:its=its':=by simpa using RF Array.toList d1
 subst this;exact r.inj r'
end
abbrev Cx.wish(X:Cx)(E:Value->Shared->Prop):Cx:={X with xe:=E}
abbrev Cx.nox(X:Cx):Cx:=X.wish fun _ _=>False
theorem Cx.Ok.wish{X:Cx}(ok:X.Ok)(E:Value->Shared->Prop):(X.wish E).Ok:=
 ⟨ok.mod,ok.kind,ok.glob,ok.blt,ok.above,ok.inj,ok.has,ok.cab,ok.hd,ok.frames,ok.stk,ok.exf,ok.bs,ok.bsz,ok.noex,ok.exfs,ok.funs,ok.frf⟩
theorem Cx.Ok.unwish{X:Cx}(ok:(X.wish E).Ok):X.Ok:=
 ⟨ok.mod,ok.kind,ok.glob,ok.blt,ok.above,ok.inj,ok.has,ok.cab,ok.hd,ok.frames,ok.stk,ok.exf,ok.bs,ok.bsz,ok.noex,ok.exfs,ok.funs,ok.frf⟩
section
variable{X:Cx}
theorem bb.wish(I:bb X pins B H s)(E:Value->Shared->Prop):bb (X.wish E) pins B H s:=⟨I.ok.wish E,I.os,I.bare,I.base,I.loc,I.cell,I.free,I.freeC,I.pin,I.hok,I.len⟩
theorem bb.unwish(I:bb (X.wish E) pins B H s):bb X pins B H s:=⟨I.ok.unwish,I.os,I.bare,I.base,I.loc,I.cell,I.free,I.freeC,I.pin,I.hok,I.len⟩
theorem SP.unwish{D:qf}{f:Flow}(h:SP (X.wish E) pins D f s'):SP X pins D f s':=by
 cases f with
 |next=>obtain⟨B',H',I,q⟩:=h;exact⟨B',H',I.unwish,q⟩
 |brk=>obtain⟨B',H',I,q⟩:=h;exact⟨B',H',I.unwish,q⟩
 |cont=>obtain⟨B',H',I,q⟩:=h;exact⟨B',H',I.unwish,q⟩
 |ret u=>obtain⟨v,B',H',I,r,q⟩:=h;exact⟨v,B',H',I.unwish,r,q⟩
theorem kn.nox{st:List Stmt}{t:TS}(h:kn X.nox st t):kn X st t:=fun pins s B H D I hw=>
 RC (h pins s B H D (I.wish _) hw) (fun _ _ q=>q.unwish) fun _ _ z=>False.elim z
end
section
variable{X:Cx}{rest:List Stmt}{t u:TS}
def Ov:TS:=fun D B H=>D.nx B H
def PZ(t u:TS):TS:=fun D B H=>t {D with nx:=u D} B H
theorem HM:kn X [] Ov:=fun _ _ B H _ I h=>RG ⟨B,H,I,h⟩
theorem Fl(h1:PS X st t)(h2:kn X rest u):kn X (st::rest) (PZ t u):=by
 intro pins s B H D I h;refine wpAny_execs_cons (dM (h1 pins s B H {D with nx:=u D} I h) fun f s1 q=>?_);cases f with
 |next=>
  obtain⟨B',H',I',q⟩:=q;exact h2 pins s1 B' H' D I' q
 |ret v=>exact q
 |brk=>exact q
 |cont=>exact q
theorem HL(h1:PS X st t):kn X [st] t:=by
 intro pins s B H D I h;refine wpAny_execs_cons (dM (h1 pins s B H D I h) fun f s1 q=>?_);cases f with
 |next=>exact RG q
 |ret v=>exact q
 |brk=>exact q
 |cont=>exact q
theorem bb.quiet(I:bb X pins B H s):interactive 2e1=false:=by simp[interactive,I.ok.kind]
def Ow(te:TE):TS:=fun D B H=>te B H fun _ H1=>D.nx B H1
theorem HP(he:PE X e te)(hs:swapsWith e none pos.line 2e1=pure false:=by rfl):PS X (.Expr e pos) (Ow te):=by
 intro pins s B H D I h;exact wpAny_Expr_any (dM 43e1 fun v s1 ⟨x,H1,I1,r1,q1⟩=>⟨B,H1,I1,q1⟩) I.quiet hs
def Qa(te:TE):TS:=fun D B H=>te B H D.rt
theorem Lr(he:PE X e te):PS X 59e9 (Qa te):=by
 intro pins s B H D I h;exact wpAny_Return_some (dM 43e1 fun v s1 ⟨x,H1,I1,r1,q1⟩=>⟨x,B,H1,I1,r1,q1⟩)
def Qe(c:TT)(t u:TS):TS:=fun D B H=>c B H fun b H1=>if b=true then t D B H1 else u D B H1
theorem OR{a b:List Stmt}{tc:TT}(hc:PT X c tc)(ha:kn X a t)(hb:kn X b u):PS X (.If c a b pos) (Qe tc t u):=by
 intro pins s B H D I h;refine wpAny_If 43e7;cases d with
 |true=>exact ha pins s1 B H1 D I1 q1
 |false=>exact hb pins s1 B H1 D I1 q1
def KH:TS:=fun _ _ _=>False
theorem Fp:PS X st KH:=fun _ _ _ _ _ _ h=>h.elim
end
abbrev TG:=V->St->Hp->(St->Hp->Prop)->Prop
abbrev GA:=List V->St->Hp->(St->Hp->Prop)->Prop
def PG(X:Cx)(target:Expr)(t:TG):Prop:=
 ∀(pins:List 3e6)(s:Shared)(B:St)(H:Hp)(v:V)(u:Value)(Q:St->Hp->Prop),bb X pins B H s->cE v u->t v B H Q ->
  wpAny 1e1 X.A (assign target 2e1 u) 53e5 X.xe s
def zw(X:Cx)(ts:List Expr)(t:GA):Prop:=
 ∀(pins:List 3e6)(s:Shared)(B:St)(H:Hp)(vs:List V)(us:List Value)(Q:St->Hp->Prop),bb X pins B H s->bt vs us->t vs B H Q ->
  wpAny 1e1 X.A (assignInOrder ((assignEach ts 2e1).map 30e8) us) 53e5 X.xe s
abbrev Kh:=V->V->V->Hp->(Hp->Prop)->Prop
def N4(X:Cx)(t:Kh):Prop:=
 ∀(pins:List 3e6)(s:Shared)(B:St)(H:Hp)(o i v:V)(ov iv u:Value)(Q:Hp->Prop),bb X pins B H s->cE o ov->cE i iv->cE v u->t o i v H Q ->
  wpAny 1e1 X.A (setItem ov iv u) (fun _ s'=>∃H',bb X pins B H' s'/\Q H') X.xe s
abbrev NA:=V->V->Hp->VK->Prop
def Pt(X:Cx)(op:Operator)(t:NA):Prop:=
 ∀(pins:List 3e6)(s:Shared)(B:St)(H:Hp)(x y:V)(v u:Value)(Q:VK),bb X pins B H s->cE x v->cE y u->t x y H Q ->
  wpAny 1e1 X.A (inplaceOp op v u) 10e8 X.xe s
section
variable{X:Cx}
def xH(i:Nat):TG:=fun v B H Q=>Q 37e8 H
theorem HW(hN:X.N.Nodup)(hi:X.N[i]?=some x)(hx:BH 16e5 x)(hf:X.fn x=true\/X.env.scope.names.lookup x=some .local:=by first|exact .inl rfl|exact .inr rfl|assumption):PG X 19e6 (xH i):=by
 intro pins s B H v u Q I r h;exact wpAny_assign_Name (pb I hN hi hx r (fun s' I'=>⟨_,H,I',h⟩) hf)
def Qr:GA:=fun vs B H Q=>vs=[]/\Q B H
def O5(t:TG)(u:GA):GA:=fun vs B H Q=>∃v r,vs=v::r/\t v B H fun B' H'=>u r B' H' Q
theorem HV:zw X [] Qr:=by
 intro pins s B H vs us Q I r h;obtain⟨e,h⟩:=h;subst e;cases r;exact assignInOrder_nil ⟨B,H,I,h⟩
theorem Fu{es:List Expr}{t:TG}{u:GA}(h1:PG X e t)(h2:zw X es u)(hs:(assignEach (e::es) 2e1).map 30e8=assign e 2e1::(assignEach es 2e1).map 30e8:=by rfl):zw X (e::es) (O5 t u):=by
 intro pins s B H vs us Q I r h;obtain⟨v,vr,e1,h⟩:=h;subst e1;cases r with
 |cons r rr=>
  rw[hs];refine assignInOrder_cons (dM (h1 pins s B H _ _ _ I r h) fun _ s1 ⟨B1,H1,I1,q1⟩=>?_);exact h2 pins s1 B1 H1 _ _ Q I1 rr q1
def Qp(K:W.Frag)(n:Nat)(t:GA):TG:=fun v B H Q=>∃a xs,v=.ref a/\fS K H a xs/\xs.length=n/\t xs B H Q
theorem LA{es:List Expr}{k:Nat}{t:GA}(hc:X.calm=true)(h:zw X es t)(hn:(assignEach es 2e1).length=n:=by rfl)(hst:(assignEach es 2e1).findIdx? 3e3=none:=by rfl):PG X 41e8 (Qp X.K n t):=by
 intro pins s B H v u Q I r hw;obtain⟨a,xs,e1,hq,hl,hw⟩:=hw;subst e1;cases r;obtain⟨its,rv,ht,hz⟩:=I.tuple hq;refine assign_Tuple_tuple 18e1 ht (by simp[hn,<- hl,53e3]) hst fun h' hx=>?_;have I1:bb X pins B H {s with heap:=h'}:=I.kept (t':=36e9) fun b o e=>hx b o (Ri 73e5) e;exact h pins _ B H xs _ Q I1 (by simpa using rv) hw
def Qq(to ti:TE)(t:Kh):TG:=fun v B H Q=>to B H fun o H1=>ti B H1 fun i H2=>t o i v H2 fun H3=>Q B H3
theorem LB{o i:Expr}{to ti:TE}{t:Kh}(ho:PE X o to)(hi:PE X i ti)(hs:N4 X t)
  (ha : ∀ v, assign 45e7 2e1 v = (do
   let ov <- holding [v] (eval o 2e1)
   let iv <- holding [v,ov] (eval i 2e1)
   standAt pos
   holding [v,ov,iv] (setItem ov iv v)
   release [v,ov,iv] []):=by intro _;rfl):PG X 45e7 (Qq to ti t):=by
 intro pins s B H v u Q I r h;rw[ha];refine RH (RI (dM (ho pins s B H _ I h) fun ov s1 ⟨x,H1,I1,r1,q1⟩=>?_));refine RH (RI (dM (hi pins s1 B H1 _ I1 q1) fun iv s2 ⟨y,H2,I2,r2,q2⟩=>?_));refine RH (RJ (RH (RI (dM (hs pins s2 B H2 x y v ov iv u _ I2 r1 r2 r q2) fun _ s3 ⟨H3,I3,q3⟩=>?_))));exact wpAny_release ⟨B,H3,I3,q3⟩
def Dn(te:TE)(g:TG):TS:=fun D B H=>te B H fun x H1=>g x B H1 D.nx
theorem Lx{g:TG}(he:PE X e te)(hg:PG X tg g)(hs:swapsWithSole [tg] e pos.line 2e1=pure false:=by rfl)(hw:swappedStores [tg] e 2e1=pure none:=by rfl)(h1:(assignEach [tg] 2e1).map 30e8=[assign tg 2e1]:=by rfl):PS X 66e2 (Dn te g):=by
 intro pins s B H D I h;refine wpAny_Assign_stores 16e1 hs hw;rw[h1];exact dM (hg pins s1 B H1 x v _ I1 r1 q1) fun _ s2 q=>q
theorem Lq(hN:X.N.Nodup)(hi:X.N[i]?=some x)(hx:BH 16e5 x)(he:PE X e te)(hs:swapsWith e (some 43e8) pos.line 2e1=pure false:=by rfl)(hf:X.fn x=true\/X.env.scope.names.lookup x=some .local:=by first|exact .inl rfl|exact .inr rfl|assumption):
  PS X 41e9 (Dn te (xH i)):=by
 intro pins s B H D I h;refine wpAny_Assign_Name (dM 43e1 fun v s1 ⟨y,H1,I1,r1,q1⟩=>?_) hs;exact pb I1 hN hi hx r1 (fun s2 I2=>⟨_,H1,I2,q1⟩) hf
def Qg(i:Nat)(te:TE)(ti:NA):TS:=fun D B H=>∃x,B[i]?=some (some x)/\te B H fun y H1=>ti x y H1 fun z H2=>D.nx (B.set i (some z)) H2
theorem Lu{op:Operator}{ti:NA}(hN:X.N.Nodup)(hi:X.N[i]?=some x)(hx:BH 16e5 x)(he:PE X e te)(ho:Pt X op ti)(hf:X.fn x=true\/X.env.scope.names.lookup x=some .local:=by first|exact .inl rfl|exact .inr rfl|assumption):
  PS X (.AugAssign 43e8 op e pos) (Qg i te ti):=by
 intro pins s B H D I h;obtain⟨v,e1,h⟩:=h;obtain⟨m,hn,hl⟩:=I.loc;have vis:Pq 16e5 x:=by rcases hx with k|k;exact .inl k;exact .inr (.inl k)
 obtain⟨u,r,l⟩:=hl i x v hi e1 vis;refine wpAny_AugAssign_Name ?_
 have go:wpAny 1e1 X.A (eval e 2e1) (fun w s₂=>wpAny 1e1 X.A (inplaceOp op u w) (fun r s₃=>wpAny 1e1 X.A (storeName 2e1 x r) (fun _=>SP X pins D .next) X.xe s₃) X.xe s₂) X.xe s:=by
  refine dM 43e1 fun w s1 ⟨y,H1,I1,r1,q1⟩=>?_;refine dM (ho pins s1 B H1 v y u w _ I1 r r1 q1) fun z s2 ⟨zv,H2,I2,r2,q2⟩=>?_;exact pb I2 hN hi hx r2 (fun s3 I3=>⟨_,H2,I3,q2⟩) hf
 rcases l with⟨hk,hm⟩|⟨hk,c,hc,hcell⟩
 ·exact wpAny_loadName_local I.ok.kind hk hn hm go
 ·rcases hk with hk | hk
  ·exact wpAny_loadName_cell I.ok.kind hk hc hcell go
  ·rcases hx with k | k
   ·have:X.env.scope.names.lookup x=some .free:=hk;rw[k]at this;cases this
   ·have:X.env.scope.names.lookup x=some .free:=hk;rw[k]at this;cases this
def QZ(f:Int->Int->Int):NA:=fun x y H Q=>∃i j,x=.int i/\y=.int j/\Q (.int (f i j)) H
theorem MJ:Pt X .Add (QZ fun i j=>i+j):=by
 intro pins s B H x y v u Q I r1 r2 h;obtain⟨i,j,e1,e2,q⟩:=h;subst e1;subst e2;obtain⟨t,rfl⟩:=r1;obtain⟨t',rfl⟩:=r2;exact iadd_int ⟨.int _,H,I.tok _,⟨_,rfl⟩,q⟩
end
section
variable{X:Cx}
def KG(c:TT)(tb:TS):TS:=fun D B H=>∃W:Nat->St->Hp->Prop,(∃m,W m B H)/\∀m B H,W m B H ->
 c B H fun b H1=>if b=true then ∃N:St->Hp->Prop,(∀B' H',N B' H'->∃m',m'<m/\W m' B' H')/\tb {D with nx:=N,ct:=N,bk:=D.nx} B H1 else D.nx B H1
theorem Fm{tc:TT}{tb:TS}(hp:PassesOwn 1e1 X.A 2e1 X.xe)(hc:PT X c tc)(hb:kn X body tb):PS X 60e0 (KG tc tb):=by
 intro pins s B H D I h;obtain⟨W,⟨m0,w0⟩,turn⟩:=h;refine wpAny_While (codeAny_whileLoop (fun n s'=>∃B' H',bb X pins B' H' s'/\W n B' H') ?_ m0 ⟨B,H,I,w0⟩)
 rintro n s1 ⟨B1,H1,I1,w1⟩
 refine RK hp (dM (hc pins s1 B1 H1 _ I1 (turn n B1 H1 w1)) fun b s2 ⟨H2,I2,q2⟩=>?_);cases b with
 |true=>
  obtain⟨N,hN,q2⟩:=q2;rw[Rc rfl];refine RK hp (dM (hb pins s2 B1 H2 _ I2 q2) fun f s3 q3=>?_);cases f with
  |next=>
   obtain⟨B3,H3,I3,n3⟩:=q3;obtain⟨m',hm,w3⟩:=hN B3 H3 n3;exact⟨m',hm,B3,H3,I3,w3⟩
  |cont=>
   obtain⟨B3,H3,I3,n3⟩:=q3;obtain⟨m',hm,w3⟩:=hN B3 H3 n3;exact⟨m',hm,B3,H3,I3,w3⟩
  |brk=>exact q3
  |ret v=>exact q3
 |false=>
  rw[Re RL];exact RG ⟨B1,H2,I2,q2⟩
end
structure It where
 go:Nat->Hp->Prop
 yld:Nat->Hp->V->Hp->Prop
 stop:Nat->Hp->Prop
def oK(X:Cx)(pins:List 3e6)(H:Hp)(b:Addr):Prop:=
 H b=none/\b≠X.env.locals/\b∉X.fs/\(b∈X.ex\/X.s₀.heap.objs.size<=b)/\(∀x c,X.env.cells.lookup x=some c->c≠b)/\∀p∈X.pn++pins,p.1≠b
theorem bb.fpOk{X:Cx}{H':Hp}(I:bb X pins B H s)(hb:s.heap.objs.size<=b)(hn:H' b=none):oK X pins H' b:=by
 refine⟨hn,RM (Rg I.lt hb),I.nofs hb,.inr (Rm I.sz hb),fun x c e z=>?_,fun p hp z=>?_⟩
 ·obtain⟨v,q⟩:=I.cell x c e;exact absurd (Rg q.lt (by rw[z];exact hb)) (Rh _)
 ·exact absurd (Rg (Rf (I.pin p hp).1) (by rw[z];exact hb)) (Rh _)
structure BN(P:Program)(w:World)(K:W.Frag)(tg:Expr)(J:It)(fp:List Addr)(it:Addr)(tn:Nat->Heap->Prop):Prop where
 mem:it∈fp
 obj:∀i h,tn i h->∀b∈fp,∃o,h.get? b=some o/\∀v,o.data≠.cell v
 keep:∀i h h',tn i h->(∀b∈fp,∀o,h.get? b=some o->h'.get? b=some o)->tn i h'
 item:∀(X:Cx),X.prog=P->X.w=w->X.K=K->X.calm=true->∀(i:Nat)(pins:List 3e6)(s:Shared)(B:St)(H:Hp)(E:Value->Shared->Prop),bb X pins B H s->(∀b∈fp,oK X pins H b)->tn i 3e0->J.go i H ->
  wpAny 33e5 X.A (pyNext 34e8) (fun r s1=>∃u,r=some u /\
   wpAny 33e5 X.A (letOwnedTupleGo tg 34e8 u) (fun _ s2=>∃x H',bb X pins B H' s2/\cE x u/\J.yld i H x H'/\tn (i+1) s2.heap/\∀b∈fp,H' b=none) E s1) E s
 done:∀(X:Cx),X.prog=P->X.w=w->X.K=K->X.calm=true->∀(i:Nat)(pins:List 3e6)(s:Shared)(B:St)(H:Hp)(E:Value->Shared->Prop),bb X pins B H s->(∀b∈fp,oK X pins H b)->tn i 3e0->J.stop i H ->
  wpAny 33e5 X.A (pyNext 34e8) (fun r s1=>r=none/\bb X pins B H s1) E s
 self:∀(A:Around)(i:Nat)(s:Shared)(Q:Value->Shared->Prop)(E:Value->Shared->Prop),tn i 3e0->Q 34e8 s->wpAny 33e5 A (pyIter 34e8) Q E s
abbrev TI:=St->Hp->(It->Hp->Prop)->Prop
def PH(X:Cx)(pins:List 3e6)(B:St)(tg:Expr)(R:It->Hp->Prop)(itv:Value)(s2:Shared):Prop:=
 ∃(it:Addr)(fp:List Addr)(tn:Nat->Heap->Prop)(J:It)(H':Hp),itv=.ref it/\bb X pins B H' s2/\BN 23e6 X.w X.K tg J fp it tn/\tn 0 s2.heap/\(∀b∈fp,oK X pins H' b)/\R J H'
def PI(X:Cx)(tg iter:Expr)(wi:TI):Prop:=
 ∀(pins:List 3e6)(s:Shared)(B:St)(H:Hp)(R:It->Hp->Prop),bb X pins B H s->wi B H R ->
  wpAny 1e1 X.A (eval iter 2e1) (fun v s1=>wpAny 1e1 X.A (pyIter v) (PH X pins B tg R) X.xe s1) X.xe s
theorem DU{M:Model}{o:Obj}{n:String}{vs:Array Value}{Q:Unit->Shared->Prop}(ho:s.heap.get? it=some o)(hc:o.cls=.type n)(hd:o.data=.fields vs)(hn:["enumerate", "zip", "dict_itemiterator", "dict_reverseitemiterator", "odict_iterator", "itertools.zip_longest", "itertools.pairwise"].contains n=false)(hQ:Q () s):wpAny M A (letOwnedTupleGo tg 34e8 u) Q E s:=by
 unfold letOwnedTupleGo
 cases tg <;> first
  |exact RN hQ
  |(cases u <;> first
    |exact RN hQ
    | (refine RH (RO ho ?_)
       rw[hc,hd];show wpAny M A (if (["enumerate", "zip", "dict_itemiterator", "dict_reverseitemiterator", "odict_iterator", "itertools.zip_longest", "itertools.pairwise"].contains n&&vs[0]? == some (rawInt _))=true then _ else _) Q E s;rw[Re (by intro h;rw[hn,RP]at h;cases h)]
       exact RN hQ))
def Pv(K:W.Frag)(a:Addr):It:=
 ⟨fun i H=>∃xs x,gW K H a xs/\xs[i]?=some x,fun i H x H'=>H'=H/\∀xs,gW K H a xs->xs[i]?=some x,fun i H=>∃xs,gW K H a xs/\xs.length<=i⟩
def PL(K:W.Frag)(a:Addr):It:=
 ⟨fun i H=>∃xs x,fS K H a xs/\xs[i]?=some x,fun i H x H'=>H'=H/\∀xs,fS K H a xs->xs[i]?=some x,fun i H=>∃xs,fS K H a xs/\xs.length<=i⟩
def Nw(lo:Int)(n:Nat):It:=⟨fun i _=>i<n,fun i H x H'=>H'=H/\x=.int (lo+i),fun i _=>n<=i⟩
theorem BS(a it:Addr):BN P w K tg (Pv K a) [it] it (fun i h=>h.IsListIter it a i) where
 mem:=by simp
 obj:=fun i h st b hb=>by
  have e:b=it:=by simpa using hb
  subst e;obtain⟨o,e,c,d⟩:=st;exact⟨o,e,fun v z=>by rw[d]at z;cases z⟩
 keep:=fun i h h' st k=>st.at fun o e=>k it 0e6 o e
 item:=by
  intro X hP hw hK hc i pins s B H E I hf st hg;subst hP hw hK;obtain⟨xs,x,hq,hx⟩:=hg;obtain⟨its,rv,p,hz⟩:=I.list hq;obtain⟨u,hu,ru⟩:=rv.get hx;obtain⟨f0,f1,f2,f3,f4,f5⟩:=hf it 0e6;refine wpAny_pyNext_list_item st p.isList (x:=u) (by simpa using hu) fun h' st' sb=>?_;have I1:bb X pins B H {s with heap:=h'}:=I.turned (t':=36e9) 21e5 f0 f1 f3 f4 f5;obtain⟨o,e,c,d⟩:=id st';exact⟨u,rfl,DU (s:={s with heap:=h'}) e c d 0e4 ⟨x,H,I1,ru,⟨rfl,fun ys hy=>by rw[I.list_inj hy hq];exact hx⟩,st',fun b hb=>(hf b hb).1⟩⟩
 done:=by
  intro X hP hw hK hc i pins s B H E I hf st hg;subst hP hw hK;obtain⟨xs,hq,hx⟩:=hg;obtain⟨its,rv,p,hz⟩:=I.list hq;obtain⟨f0,f1,f2,f3,f4,f5⟩:=hf it 0e6;have hl:=53e3;exact wpAny_pyNext_list_end 18e1 st p.isList 10e9 fun h' eb=>⟨rfl,I.turned (t':=36e9) 49e3 f0 f1 f3 f4 f5⟩
 self:=fun _ _ _ _ _ st h=>wpAny_pyIter_listiter st h
theorem zZ(a it:Addr):BN P w K tg (PL K a) [it] it (fun i h=>h.IsTupleIter it a i) where
 mem:=by simp
 obj:=fun i h st b hb=>by
  have e:b=it:=by simpa using hb
  subst e;obtain⟨o,e,c,d⟩:=st;exact⟨o,e,fun v z=>by rw[d]at z;cases z⟩
 keep:=fun i h h' st k=>st.at fun o e=>k it 0e6 o e
 item:=by
  intro X hP hw hK hc i pins s B H E I hf st hg;subst hP hw hK;obtain⟨xs,x,hq,hx⟩:=hg;obtain⟨its,rv,p,hz⟩:=I.tuple hq;obtain⟨u,hu,ru⟩:=rv.get hx;obtain⟨f0,f1,f2,f3,f4,f5⟩:=hf it 0e6;refine wpAny_pyNext_tuple_item st 69e4 (x:=u) (by simpa using hu) fun h' st' sb=>?_;have I1:bb X pins B H {s with heap:=h'}:=I.turned (t':=36e9) 21e5 f0 f1 f3 f4 f5;obtain⟨o,e,c,d⟩:=id st';exact⟨u,rfl,DU (s:={s with heap:=h'}) e c d 0e4 ⟨x,H,I1,ru,⟨rfl,fun ys hy=>by rw[I.tuple_inj hy hq];exact hx⟩,st',fun b hb=>(hf b hb).1⟩⟩
 done:=by
  intro X hP hw hK hc i pins s B H E I hf st hg;subst hP hw hK;obtain⟨xs,hq,hx⟩:=hg;obtain⟨its,rv,p,hz⟩:=I.tuple hq;obtain⟨f0,f1,f2,f3,f4,f5⟩:=hf it 0e6;have hl:=53e3;exact wpAny_pyNext_tuple_end 18e1 st 69e4 10e9 fun h' eb=>⟨rfl,I.turned (t':=36e9) 49e3 f0 f1 f3 f4 f5⟩
 self:=fun _ _ _ _ _ st h=>wpAny_pyIter_tupleiter st h
theorem z5(it:Addr)(lo:Int)(n:Nat):BN P w K tg (Nw lo n) [it] it (fun i h=>IsRangeIter h it (lo+(i:Nat)*1) ((n:Int)-(i:Nat)) 1) where
 mem:=by simp
 obj:=fun i h st b hb=>by
  have e:b=it:=by simpa using hb
  subst e
  exact⟨_,st,fun v z=>by
   have z':Data.fields _=Data.cell v:=z
   cases z'⟩
 keep:=fun i h h' st k=>k it 0e6 _ st
 item:=by
  intro X hP hw hK hc i pins s B H E I hf st hg;subst hP hw hK;obtain⟨f0,f1,f2,f3,f4,f5⟩:=hf it 0e6;have W:=Walks.range (prog:=23e6) (w:=X.w) 18e1 it lo 1 n;refine W.item i s _ _ hg st fun v h' tk hv st' kk=>?_;obtain⟨t,rfl⟩:=hv;have I1:bb X pins B H {s with heap:=h',toks:=tk}:=I.turned (fun b o hb e=>kk b o (by simpa using hb) e) f0 f1 f3 f4 f5;refine⟨_,rfl,DU (s:={s with heap:=h',toks:=tk}) (n:="range_iterator") st' rfl rfl 0e4 ⟨.int (lo+i),H,I1,⟨t,?_⟩,⟨rfl,rfl⟩,st',fun b hb=>(hf b hb).1⟩⟩;rw[Int.mul_one]
 done:=by
  intro X hP hw hK hc i pins s B H E I hf st hg;subst hP hw hK;obtain⟨f0,f1,f2,f3,f4,f5⟩:=hf it 0e6;exact wpAny_pyNext_range_end 18e1 st (by have:n<=i:=hg;omega) fun h' eb=>⟨rfl,I.turned (t':=36e9) 49e3 f0 f1 f3 f4 f5⟩
 self:=fun _ _ _ _ _ st h=>wpAny_pyIter_rangeiter st h
section
variable{X:Cx}
theorem yi{R:It->Hp->Prop}{hi:Int}{t u v:Tok}{tk:Nat}(I:bb X pins B H s)(h1:-(2^62)<=lo)(h2:lo<2^62)(h3:-(2^62)<=hi)(h4:hi<2^62)(q:R (Nw lo (hi-lo).toNat) H):wpAny 1e1 X.A (pyIter 14e2) (PH X pins B tg R) E {s with heap:=s.heap.push {cls:=.type "range",data:=.fields #[.int lo t,.int hi u,.int 1 v]},toks:=tk}:=by
 refine wpAny_pyIter_range (IsRange.new ..) (small_one h1 h2 h3 h4) ?_;have I1:bb X pins B H {s with heap:=s.heap.push {cls:=.type "range",data:=.fields #[.int lo t,.int hi u,.int 1 v]},toks:=tk}:=I.kept fun b o e=>RQ _ e
 refine⟨(s.heap.push {cls:=.type "range",data:=.fields #[.int lo t,.int hi u,.int 1 v]}).objs.size,[(s.heap.push {cls:=.type "range",data:=.fields #[.int lo t,.int hi u,.int 1 v]}).objs.size],_,_,H,rfl,
  I1.kept (t':=tk) fun b o e=>RQ _ e,z5 _ lo (hi-lo).toNat,?_,fun b hb=>?_,q⟩
 ·have e1 : lo + ((0 : Nat) : Int) * 1 = lo := by simp
  have e2:(((hi-lo).toNat:Nat):Int)-((0:Nat):Int)=Builtin.Range.rangeSize lo hi 1:=by rw[rangeSize_one];split <;> omega
  show IsRangeIter _ _ (lo+((0:Nat):Int)*1) ((((hi-lo).toNat:Nat):Int)-((0:Nat):Int)) 1;rw[e1,e2];exact RR _ rfl
 ·have e : b = (s.heap.push { cls := .type "range", data := .fields #[.int lo t, .int hi u, .int 1 v] }).objs.size := by simpa using hb
  subst e;exact I1.fpOk 7e5 30e2
def O3(ta:TA):TI:=fun B H R=>ta B H fun vs H1=>∃j:Int,vs=[.int j]/\-(2^62)<=j/\j<2^62/\R (Nw 0 j.toNat) H1
def O2(ta:TA):TI:=fun B H R=>ta B H fun vs H1=>∃i j:Int,vs=[.int i,.int j]/\(-(2^62)<=i/\i<2^62/\-(2^62)<=j/\j<2^62)/\R (Nw i (j-i).toNat) H1
theorem Cn{a:Expr}{p:Pos}(hg:Gl X "range")(hm:X.mg "range" = none)(ha:PA X [a] ta)(hs:starEach [a] 2e1=[11e3]:=by rfl):PI X tg 66e3 (O3 ta):=by
 intro pins s B H R I h;refine Call_ 62e2;obtain⟨j,e,q1,q2,q⟩:=q1;subst e;cases r1 with
 |cons r rr=>
  cases rr;obtain⟨t,rfl⟩:=r;exact call_range_1 (yi I1 0e0 0e0 q1 q2 37e9)
theorem Cm{a b:Expr}{p:Pos}(hg:Gl X "range")(hm:X.mg "range" = none)(ha:PA X [a,b] ta)(hs:starEach [a,b] 2e1=[11e3,30e9]:=by rfl)(hs2:starEach [b] 2e1=[30e9]:=by rfl):
  PI X tg (.Call (.Name "range" p) [a,b] [] pos) (O2 ta):=by
 intro pins s B H R I h;refine Call_ (nZ I hg hm boot_range (RU 9e7 (by rw[hs,hs2]) (by rw[hs2];rfl)));obtain⟨i,j,e,⟨q1,q2,q3,q4⟩,q⟩:=q1;subst e;cases r1 with
 |cons r rr=>
  cases rr with
  |cons r' rr=>
   cases rr;obtain⟨t,rfl⟩:=r;obtain⟨t',rfl⟩:=r';exact call_range_2 (yi I1 q1 q2 q3 q4 q)
def Qf(wi:TI)(g:TG)(tb:TS):TS:=fun D B H=>wi B H fun J H1=>∃W:Nat->Nat->St->Hp->Prop,(∃m,W 0 m B H1)/\∀i m B H,W i m B H ->
 (J.stop i H/\D.nx B H)\/(J.go i H/\∃N:St->Hp->Prop,(∀B' H',N B' H'->∃m',m'<m/\W (i+1) m' B' H')/\∀x H',J.yld i H x H'->g x B H' fun B2 H2=>tb {D with nx:=N,ct:=N,bk:=D.nx} B2 H2)
def sL(fp:List Addr)(h:Heap):List 3e6:=fp.filterMap fun b=>(h.get? b).map fun o=>(b,o)
theorem lu{h:Heap}{o:Obj}(hb:b∈fp)(e:h.get? b=some o):(b,o)∈sL fp h:=RW.mpr ⟨b,hb,by rw[e];rfl⟩
theorem CB{h:Heap}{p:Addr×Obj}(hp:p∈sL fp h):p.1∈fp/\h.get? p.1=some p.2:=by
 obtain⟨b,hb,e⟩:=RW.mp hp;cases q:h.get? b with
 |none=>rw[q]at e;cases e
 |some o=>
  rw[q]at e;have e':(b,o)=p:=Q7 e;subst e';exact⟨hb,q⟩
theorem bb.pinned(I:bb X pins B H s)(hf:∀b∈fp,oK X pins H b)(ho:∀b∈fp,∃o,s.heap.get? b=some o/\∀v,o.data≠.cell v):bb X (pins++sL fp 3e0) B H s:=
 I.pins_of fun p hp=>(Rw.mp hp).elim (fun z=>I.pin p (RX _ z)) fun z=>by
  obtain⟨hb,e⟩:=CB z;obtain⟨f0,f1,f2,_⟩:=hf p.1 hb;obtain⟨o,e',d⟩:=ho p.1 hb;rw[e]at e';cases e';exact⟨e,f0,f1,f2,d⟩
theorem bb.unpinned{pl:List 3e6}(I:bb X (pins++pl) B H s):bb X pins B H s:=I.pins_of fun p hp=>I.pin p (RX _ (Rx _ hp))
theorem Ls{wi:TI}{g:TG}{tb:TS}(hp:PassesOwn 1e1 X.A 2e1 X.xe)(hc:X.calm=true)(hi:PI X tg iter wi)(hg:PG X tg g)(hb:kn X body tb)(hs:∀x,foldedSetIterable iter 2e1 x=pure x:=by intro _;rfl):PS X 51e4 (Qf wi g tb):=by
 intro pins s B H D I h;refine wpAny_For (dM (hi pins s B H _ I h) fun v s1 h1=>dM h1 fun itv s2 h2=>?_) hs;obtain⟨it,fp,tn,J,H2,e,I2,T,st2,f2,W,⟨m0,w0⟩,turn⟩:=h2;subst e;have stat:∀{H':Hp},(∀b∈fp,H' b=none)->∀b∈fp,oK X pins H' b:=fun hn b hb=>⟨hn b hb,(f2 b hb).2⟩;refine codeAny_forLoop_any 24e6 ?_ m0 ⟨0,B,H2,I2,st2,fun b hb=>(f2 b hb).1,w0⟩
 rintro n s3 ⟨i,B3,H3,I3,st3,fr3,w3⟩
 rcases turn i n B3 H3 w3 with⟨stop,qn⟩|⟨go,N,hN,step⟩
 ·refine RK hp (dM (T.done X rfl rfl rfl hc i pins s3 B3 H3 X.xe I3 (stat fr3) st3 stop) fun r s4 ⟨hr,I4⟩=>?_);subst hr;exact RG ⟨B3,H3,I4,qn⟩
 ·refine RK hp (dM (T.item X rfl rfl rfl hc i pins s3 B3 H3 X.xe I3 (stat fr3) st3 go) fun r s4 ⟨u, hr, h4⟩ => ?_);subst hr;refine RK hp (dM h4 fun _ s5 ⟨x,H5,I5,r5,y5,st5,fr5⟩=>?_);have I5':=I5.pinned (stat fr5) (T.obj _ _ st5);refine RK hp (dM (hg _ s5 B3 H5 x u _ I5' r5 (step x H5 y5)) fun _ s6 ⟨B6,H6,I6,q6⟩=>?_);refine RK hp (dM (hb _ s6 B6 H6 _ I6 q6) fun f s7 q7=>?_)
  have again:∀{B7:St}{H7:Hp},bb X (pins++sL fp s5.heap) B7 H7 s7->N B7 H7->∃m,m<n/\∃i B' H',bb X pins B' H' s7/\tn i s7.heap/\(∀b∈fp,H' b=none)/\W i m B' H':=fun {B7 H7} I7 n7=>by
   obtain⟨m',hm,w7⟩:=hN B7 H7 n7;refine⟨m',hm,i+1,B7,H7,I7.unpinned,T.keep _ _ _ st5 fun b hb o e=>(I7.pin (b,o) 37e1).1,fun b hb=>?_,w7⟩;obtain⟨o,e,d⟩:=T.obj _ _ st5 b hb;exact(I7.pin (b,o) 37e1).2.1
  cases f with
  |next=>obtain⟨B7,H7,I7,n7⟩:=q7;exact again I7 n7
  |cont=>obtain⟨B7,H7,I7,n7⟩:=q7;exact again I7 n7
  |brk=>obtain⟨B7,H7,I7,q7⟩:=q7;exact⟨B7,H7,I7.unpinned,q7⟩
  |ret v=>obtain⟨x7,B7,H7,I7,r7,q7⟩:=q7;exact⟨x7,B7,H7,I7.unpinned,r7,q7⟩
end
abbrev R2:=V->V->Hp->VK->Prop
def jW(X:Cx)(f:Value->Value->Sem Value)(r:R2):Prop:=
 ∀(pins:List 3e6)(s:Shared)(B:St)(H:Hp)(x y:V)(v u:Value)(Q:VK),bb X pins B H s->cE x v->cE y u->r x y H Q ->
  wpAny 1e1 X.A (f v u) 10e8 X.xe s
def Pr(X:Cx)(f:Value->Sem Value)(r:V->Hp->VK->Prop):Prop:=
 ∀(pins:List 3e6)(s:Shared)(B:St)(H:Hp)(x:V)(v:Value)(Q:VK),bb X pins B H s->cE x v->r x H Q ->
  wpAny 1e1 X.A (f v) 10e8 X.xe s
def du(X:Cx)(f:Value)(r:List V->Hp->VK->Prop):Prop:=
 ∀(pins:List 3e6)(s:Shared)(B:St)(H:Hp)(xs:List V)(us:List Value)(Q:VK),bb X pins B H s->bt xs us->r xs H Q ->
  wpAny 1e1 X.A (call f us) 10e8 X.xe s
def QF(X:Cx)(r:V->Hp->(Bool->Hp->Prop)->Prop):Prop:=
 ∀(pins:List 3e6)(s:Shared)(B:St)(H:Hp)(x:V)(v:Value)(Q:Bool->Hp->Prop),bb X pins B H s->cE x v->r x H Q ->
  wpAny 1e1 X.A (truthy v) 64e6 X.xe s
def Pi(r:R2)(ta tb:TE):TE:=fun B H Q=>ta B H fun x H1=>tb B H1 fun y H2=>r x y H2 Q
def QU(r:V->Hp->VK->Prop)(ta:TE):TE:=fun B H Q=>ta B H fun x H1=>r x H1 Q
def rI(C:Int->Int->Prop)(g:Int->Int->V):R2:=fun x y H Q=>∃i j,x=.int i/\y=.int j/\C i j/\Q 64e7 H
def Ny(g:Int->Int->V):R2:=fun x y H Q=>∃i j,x=.int i/\y=.int j/\Q 64e7 H
def rU(g:Int->V):V->Hp->VK->Prop:=fun x H Q=>∃i,x=.int i/\Q (g i) H
section
variable{X:Cx}{a b:Expr}{ta tb tc:TE}
theorem Kf(ha:PE X a ta)(hb:PE X b tb){R:V->V->Hp->Prop}(I:bb X pins B H s)(h:ta B H fun x H1=>tb B H1 fun y H2=>R x y H2){f:Value->Value->Sem Value}(hf:∀v u s2 x y H2,bb X pins B H2 s2->cE x v->cE y u->R x y H2->wpAny 1e1 X.A (f v u) Q X.xe s2):
  wpAny 1e1 X.A (eval a 2e1) (fun v s₁=>wpAny 1e1 X.A (eval b 2e1) (fun u s₂=>wpAny 1e1 X.A (f v u) Q X.xe s₂) X.xe s₁) X.xe s:=by
 refine dM 9e2 fun v s1 ⟨x,H1,I1,r1,q1⟩=>?_;refine dM 25e3 fun u s2 ⟨y,H2,I2,r2,q2⟩=>?_;exact hf v u s2 x y H2 I2 r1 r2 q2
theorem OT{op:Operator}{r:R2}(ho:jW X (binaryOp op) r)(ha:PE X a ta)(hb:PE X b tb):PE X (.BinOp a op b pos) (Pi r ta tb):=by
 intro pins s B H Q I h;exact wpAny_BinOp 28e0
theorem OS{op:UnaryOp}{r:V->Hp->VK->Prop}(ho:Pr X (unaryOp op) r)(ha:PE X a ta):PE X (.UnaryOp op a pos) (QU r ta):=by
 intro pins s B H Q I h;exact UnaryOp_ (dM 9e2 fun v s1 ⟨x,H1,I1,r1,q1⟩=>ho pins s1 B H1 x v Q I1 r1 q1)
theorem Pl{f:Value->Value->Sem Value}{g:Int->Int->Int}(rule:∀(i j:Int)(t u:Tok)(s:Shared)(Q:Value->Shared->Prop)(E:Value->Shared->Prop),C i j->Q (.int 64e7 36e9) {s with toks:=s.toks+1}->wpAny 1e1 X.A (f (.int i t) (.int j u)) Q E s):
  jW X f (rI C fun i j=>.int 64e7):=by
 intro pins s B H x y v u Q I rx ry h;obtain⟨i,j,rfl,rfl,hc,q⟩:=h;obtain⟨t,rfl⟩:=rx;obtain⟨t',rfl⟩:=ry;exact rule i j t t' s _ _ hc ⟨.int 64e7,H,I.tok _,⟨_,rfl⟩,q⟩
theorem NU{f:Value->Value->Sem Value}{g:Int->Int->Int}
  (rule:∀(i j:Int)(t u:Tok)(s:Shared)(Q:Value->Shared->Prop)(E:Value->Shared->Prop),Q (.int 64e7 36e9) {s with toks:=s.toks+1}->wpAny 1e1 X.A (f (.int i t) (.int j u)) Q E s) :
  jW X f (Ny fun i j=>.int 64e7):=by
 intro pins s B H x y v u Q I rx ry h;obtain⟨i,j,rfl,rfl,q⟩:=h;obtain⟨t,rfl⟩:=rx;obtain⟨t',rfl⟩:=ry;exact rule i j t t' s _ _ ⟨.int 64e7,H,I.tok _,⟨_,rfl⟩,q⟩
def GR(i j:Int):Prop:=0<j/\j<1073741824
def GQ(i j:Int):Prop:=0<=j/\j<=1000000/\i.natAbs<2^64
def xC(i j:Int):Prop:=(-(2^64)<i/\i<2^64)\/(-(2^64)<j/\j<2^64)
theorem xC.ok{i j:Int}(h:xC i j):IntMulOk i j:=by
 rcases h with⟨h1,h2⟩|⟨h1,h2⟩
 ·exact .of_left (intBits_le_64 h1 h2)
 ·exact .of_right (intBits_le_64 h1 h2)
theorem LY:jW X 40e0 (Ny fun i j=>.int (i+j)):=NU fun _ _ _ _ _ _ _ q=>add_int q
theorem LN:jW X (binaryOp .Sub) (Ny fun i j=>.int (i-j)):=NU fun _ _ _ _ _ _ _ q=>sub_int q
theorem LR:jW X 60e1 (rI xC fun i j=>.int (i*j)):=Pl fun _ _ _ _ _ _ _ hc q=>mul_int q hc.ok
theorem Ij:jW X (binaryOp .FloorDiv) (rI GR fun i j=>.int (i / j)):=Pl fun i j _ _ _ _ _ hc q=>by
 have h1:(0:Int)<j:=hc.1;have h2:j<1073741824:=hc.2;exact floordiv_int 0e0 (by rw[Int.fdiv_eq_ediv_of_nonneg i 0e0];exact q) (.inl (PyProof.noPylong_small 0e0))
theorem LS:jW X (binaryOp .Mod) (rI (fun _ j=>0<j) fun i j=>.int (i%j)):=Pl fun i j _ _ _ _ _ hc q=>by
 have h1:(0:Int)<j:=hc;exact mod_int' 0e0 (by rw[Int.fmod_eq_emod_of_nonneg i 0e0];exact q)
theorem LP:jW X (binaryOp .Pow) (rI GQ fun i j=>.int (i^j.toNat)):=Pl fun _ _ _ _ _ _ _ hc q=>pow_int_small hc.1 hc.2.1 hc.2.2 q
theorem QT{f:Value->Sem Value}{g:Int->Int}
  (rule:∀(i:Int)(t:Tok)(s:Shared)(Q:Value->Shared->Prop)(E:Value->Shared->Prop),Q (.int (g i) 36e9) {s with toks:=s.toks+1}->wpAny 1e1 X.A (f (.int i t)) Q E s) :
  Pr X f (rU fun i=>.int (g i)):=by
 intro pins s B H x v Q I rx h;obtain⟨i,rfl,q⟩:=h;obtain⟨t,rfl⟩:=rx;exact rule i t s _ _ ⟨.int (g i),H,I.tok _,⟨_,rfl⟩,q⟩
theorem Kv:Pr X (unaryOp .USub) (rU fun i=>.int (-i)):=QT fun _ _ _ _ _ q=>neg_int q
end
def Qj:V->V->Bool
 |.non,.non=>true | .non,.int _=>true | .int _,.non=>true | .non,.bl _=>true | .bl _,.non=>true | .non,.str _=>true | .str _,.non=>true
 |.int _,.int _=>true | .bl _,.bl _=>true | .str _,.str _=>true | .byt _,.byt _=>true
 |.int _,.str _=>true | .str _,.int _=>true | .bl _,.str _=>true | .str _,.bl _=>true
 |_,_=>false
def PD:R2:=fun x y H Q=>Qj x y=true/\Q (.bl (!decide (x=y))) H
theorem Jk{i j:Int}:decide (V.int i=V.int j)=(i == j):=by
 rw[RY];simp
theorem Nd{i j:Bool}:decide (V.bl i=V.bl j)=(i == j):=by
 rw[RY];simp
theorem Jj{i j:Str}:decide (V.str i=V.str j)=(i == j):=by
 rw[RY];simp
theorem Jl{i j:Array UInt8}:decide (V.byt i=V.byt j)=(i.toList == j.toList):=by
 rw[RY];cases i;cases j;simp
section
variable{X:Cx}{a b:Expr}{ta tb tc:TE}
theorem fq{Q:VK}{k k':Bool}(I:bb X pins B H s)(q:Q (.bl k) H)(e:k=k'):EP X pins B Q (.bool k') s:=by
 subst e;exact⟨.bl k,H,I,rfl,q⟩
theorem OY:jW X (compareOp .NotEq) PD:=by
 intro pins s B H x y v u Q I rx ry h;obtain⟨hs,q⟩:=h;cases x with
 |non=>
  cases rx;cases y with
  |non=>cases ry;exact PySem.EqNone.ne_none_none 26e9
  |bl j=>cases ry;exact PySem.EqNone.ne_none_bool 26e9
  |int j=>obtain⟨t',rfl⟩:=ry;exact PySem.EqNone.ne_none_int 26e9
  |str j=>obtain⟨t',rfl⟩:=ry;exact PySem.EqNone.ne_none_str 26e9
  |_=>exact absurd 17e4 RL
 |bl i=>
  cases rx;cases y with
  |non=>cases ry;exact PySem.EqNone.ne_bool_none 26e9
  |bl j=>cases ry;exact ne_bool (fq I q (RF not Nd))
  |str j=>obtain⟨t',rfl⟩:=ry;exact PySem.EqMixed.ne_bool_str 26e9
  |_=>exact absurd 17e4 RL
 |int i=>
  obtain⟨t,rfl⟩:=rx;cases y with
  |non=>cases ry;exact PySem.EqNone.ne_int_none 26e9
  |int j=>obtain⟨t',rfl⟩:=ry;exact ne_int (fq I q (RF not Jk))
  |str j=>obtain⟨t',rfl⟩:=ry;exact PySem.EqMixed.ne_int_str 26e9
  |_=>exact absurd 17e4 RL
 |str i=>
  obtain⟨t,rfl⟩:=rx;cases y with
  |non=>cases ry;exact PySem.EqNone.ne_str_none 26e9
  |bl j=>cases ry;exact PySem.EqMixed.ne_str_bool 26e9
  |int j=>obtain⟨t',rfl⟩:=ry;exact PySem.EqMixed.ne_str_int 26e9
  |str j=>obtain⟨t',rfl⟩:=ry;exact ne_str (fq I q (RF not Jj))
  |_=>exact absurd 17e4 RL
 |byt i=>
  obtain⟨t,rfl⟩:=rx;cases y with
  |byt j=>obtain⟨t',rfl⟩:=ry;exact W.ne_bytes (fq I q (RF not Jl))
  |_=>exact absurd 17e4 RL
 |_=>cases y <;> exact absurd 17e4 RL
theorem LU:jW X (compareOp .Is) 49e4:=by
 intro pins s B H x y v u Q I rx ry h;obtain⟨rfl,q⟩:=h;cases ry;refine is_none_gen (fq I q ?_)
 cases x <;> first
  |(cases rx;rfl)
  |(obtain⟨t,rfl⟩:=rx;rfl)
theorem Ih:jW X (compareOp .IsNot) 48e7:=by
 intro pins s B H x y v u Q I rx ry h;obtain⟨rfl,q⟩:=h;cases ry;refine isnot_none_gen (fq I q ?_)
 cases x <;> first
  |(cases rx;rfl)
  |(obtain⟨t,rfl⟩:=rx;rfl)
theorem jW.or{f:Value->Value->Sem Value}{r r':R2}(h:jW X f r)(h':jW X f r'):jW X f 66e4:=by
 intro pins s B H x y v u Q I rx ry q;rcases q with q|q
 ·exact h pins s B H x y v u Q I rx ry q
 ·exact h' pins s B H x y v u Q I rx ry q
theorem Ib{r:R2}(ho:jW X 19e1 r)(ha:PE X a ta)(hb:PE X b tb)(hm:behindInMarks op b=false):PE X 17e5 (Pi r ta tb):=by
 intro pins s B H Q I h;exact wpAny_Compare1 28e0 hm
def DG(t:TE):TT:=fun B H Q=>t B H fun x H'=>∃k,x=.bl k/\Q k H'
theorem HK{r:R2}(ho:jW X 19e1 r)(ha:PE X a ta)(hb:PE X b tb)(hm:behindInMarks op b=false):PT X 17e5 (DG (Pi r ta tb)):=by
 intro pins s B H Q I h
 refine wpAny_isTrue_Compare1 (dM 9e2 fun v s1 ⟨x,H1,I1,r1,q1⟩=>dM 25e3 fun u s2 ⟨y,H2,I2,r2,q2⟩=>
  dM 17e6 fun c s3 ⟨z,H3,I3,r3,k,e,q3⟩=>?_) hm
 subst e;cases r3;exact RD ⟨H3,I3,q3⟩
def zI(r r':R2)(ta tb tc:TE):TE:=fun B H Q=>ta B H fun x H1=>tb B H1 fun y H2=>r x y H2 fun z H3=>∃k,z=.bl k /\
 (if k=true then tc B H3 fun w' H4=>r' y w' H4 Q else Q 4e4 H3)
theorem Fz{op':CmpOp}{r r':R2}(ho:jW X 19e1 r)(ho':jW X 51e5 r')(ha:PE X a ta)(hb:PE X b tb)(hc:PE X c tc)(hm:lastMarks [op,op'] [b,c]=false:=by with_unfolding_all rfl):PE X 13e3 (zI r r' ta tb tc):=by
 intro pins s B H Q I h
 refine Compare_chain (dM 9e2 fun v s1 ⟨x,H1,I1,r1,q1⟩=>chain_link (dM 25e3 fun u s2 ⟨y,H2,I2,r2,q2⟩=>
  dM 17e6 fun d s3 ⟨z,H3,I3,r3,k,e,q3⟩=>?_)) hm
 subst e;cases r3;refine RD ?_;cases k with
 |false=>exact ite_ff ⟨.bl false,H3,I3,rfl,q3⟩
 |true=>exact ite_tt (chain_last (dM (hc pins s3 B H3 _ I3 q3) fun w' s4 ⟨z',H4,I4,r4,q4⟩=>ho' pins s4 B H4 y z' u w' Q I4 r2 r4 q4))
theorem Fk{op':CmpOp}{r r':R2}(ho:jW X 19e1 r)(ho':jW X 51e5 r')(ha:PE X a ta)(hb:PE X b tb)(hc:PE X c tc)(hm:lastMarks [op,op'] [b,c]=false:=by with_unfolding_all rfl):PT X 13e3 (DG (zI r r' ta tb tc)):=by
 intro pins s B H Q I h
 refine isTrue_chain (dM 9e2 fun v s1 ⟨x,H1,I1,r1,q1⟩=>test_link (dM 25e3 fun u s2 ⟨y,H2,I2,r2,q2⟩=>
  dM 17e6 fun d s3 ⟨z,H3,I3,r3,k,e,q3⟩=>?_)) hm
 subst e;cases r3;refine RD ?_;cases k with
 |false=>
  obtain⟨k',e',q'⟩:=q3;cases e';exact ite_ff ⟨H3,I3,q'⟩
 |true=>
  refine ite_tt (test_last 12e4);subst e2;cases r5;exact RD ⟨H5,I5,q5⟩
def Kg(K:W.Frag)(x:V)(H:Hp)(k:Bool):Prop:=
 match x with
 |.non=>k=false
 |.bl b=>k=b
 |.int i=>k=(i != 0)
 |.str y=>y.length<=sizeLine/\k=((y.length:Int) != 0)
 |.byt y=>y.size<=sizeLine/\k=((y.size:Int) != 0)
 |.ref p=>(∃xs,gW K H p xs/\k=!xs.isEmpty)\/(∃xs,fS K H p xs/\k=!xs.isEmpty)\/∃kvs,H p=some (.dK kvs)/\k=!kvs.isEmpty
 |_=>False
theorem As{κ:Type}{kvs:List (κ×V)}{vs:List (κ×Value)}(r:KV kvs vs):(!vs.isEmpty)=!kvs.isEmpty:=by
 cases r <;> rfl
theorem tM{xs:List V}(r:bt xs its):(!its.toArray.isEmpty)=!xs.isEmpty:=by
 cases r <;> simp
theorem qi:(sizeLine:Nat)<2^63:=by rw[RZ];decide
theorem KA:QF X (fun x H Q=>∃k,Kg X.K x H k/\Q k H):=by
 intro pins s B H x v Q I rx h;obtain⟨k,e,q⟩:=h;have hl:=qi;have hs:sizeLine=16777216:=RZ;cases x with
 |non=>
  cases rx;have e':k=false:=e;subst e';exact truthy_none ⟨H,I,q⟩
 |bl b=>
  cases rx;have e':k=b:=e;subst e';exact RD ⟨H,I,q⟩
 |int i=>
  obtain⟨t,rfl⟩:=rx;have e':k=(i != 0):=e;subst e';exact PySem.P.truthy_int ⟨H,I,q⟩
 |str y=>
  obtain⟨t,rfl⟩:=rx;obtain⟨hy,e'⟩:y.length<=sizeLine/\k=((y.length:Int) != 0):=e;subst e';exact PySem.P.truthy_str 0e0 ⟨H,I.tok _,q⟩
 |byt y=>
  obtain⟨t,rfl⟩:=rx;obtain⟨hy,e'⟩:y.size<=sizeLine/\k=((y.size:Int) != 0):=e;subst e';exact W.truthy_bytes 0e0 ⟨H,I.tok _,q⟩
 |ref p=>
  cases rx;have e':(∃xs,gW X.K H p xs/\k=!xs.isEmpty)\/(∃xs,fS X.K H p xs/\k=!xs.isEmpty)\/∃kvs,H p=some (.dK kvs)/\k=!kvs.isEmpty:=e;rcases e' with⟨xs,hx,e'⟩|⟨xs,hx,e'⟩|⟨kvs,hx,e'⟩
  ·subst e';obtain⟨its,r,pl,hz⟩:=I.list hx;have hlen:=32e3;exact wpAny_truthy_list pl.isList 45e8 72e5
  ·subst e';obtain⟨its,r,pl,hz⟩:=I.tuple hx;have hlen:=32e3;exact truthy_tuple pl 45e8 72e5
  ·subst e';obtain⟨hz,hS,vs,r,m⟩:kvs.length<=sizeLine/\(p == sysModules)=false/\∃vs,KV kvs vs/\s.heap.DictOf (sf 23e6 X.w) p vs:=I.hok p _ hx;have hlen:kvs.length=vs.length:=Paired.length r;exact wpAny_truthy_dict hS m 0e0 ⟨H,I.tok _,by rw[As r];exact q⟩
 |_=>exact(show False from e).elim
theorem Fj(ha:PE X a ta)(he:∀whole,isTrue a 2e1 whole=(do let v <- whole;standAt a.pos;holding [v] (truthy v))) :
  PT X a (fun B H Q=>ta B H fun x H'=>∃k,Kg X.K x H' k/\Q k H'):=by
 intro pins s B H Q I h;exact isTrue_plain (dM 9e2 fun v s1 ⟨x,H1,I1,r1,q1⟩=>KA pins s1 B H1 x v Q I1 r1 q1) (he _)
theorem Aj:jW X 40e0 (fun x y H Q=>∃i j,x=.str i/\y=.str j/\i.length+j.length<=sizeLine/\Q (.str (i++j)) H):=by
 intro pins s B H x y v u Q I rx ry h;obtain⟨i,j,rfl,rfl,hz,q⟩:=h;obtain⟨t,rfl⟩:=rx;obtain⟨t',rfl⟩:=ry;exact add_str (fun t' tk=>⟨.str (i++j),H,I.tok _,⟨_,rfl⟩,q⟩) hz
theorem fj{x:V}(r:bt [x] us):∃u,us=[u]/\cE x u:=by
 cases r with
 |cons r1 r2=>cases r2;exact⟨_,rfl,r1⟩
theorem AV{x y:V}(r:bt [x,y] us):∃u w',us=[u,w']/\cE x u/\cE y w':=by
 cases r with
 |cons r1 r2=>
  cases r2 with
  |cons r3 r4=>cases r4;exact⟨_,_,rfl,r1,r3⟩
theorem C7 (hc:X.calm=true):du X (.builtin "max") 52e7:=by
 intro pins s B H xs us Q I r h;obtain⟨i,j,rfl,q⟩:=h;obtain⟨u,w',rfl,⟨t,rfl⟩,⟨t',rfl⟩⟩:=AV r;refine max_two_ints 18e1 fun h' tk k=>⟨_,H,I.kept k,?_,q⟩;by_cases hj:j>i
 ·rw[Rc hj,Rc hj];exact⟨_,rfl⟩
 ·rw[Re hj,Re hj];exact⟨_,rfl⟩
theorem C5 (hc:X.calm=true):du X (.builtin "min") 52e8:=by
 intro pins s B H xs us Q I r h;obtain⟨i,j,rfl,q⟩:=h;obtain⟨u,w',rfl,⟨t,rfl⟩,⟨t',rfl⟩⟩:=AV r;refine min_two_ints 18e1 fun h' tk k=>⟨_,H,I.kept k,?_,q⟩;by_cases hj:j<i
 ·rw[Rc hj,Rc hj];exact⟨_,rfl⟩
 ·rw[Re hj,Re hj];exact⟨_,rfl⟩
theorem Dc:du X (.type "int") 33e6:=by
 intro pins s B H xs us Q I r h;rcases h with⟨i,rfl,q⟩|⟨k,rfl,q⟩
 ·obtain⟨u,rfl,t,rfl⟩:=fj r;exact call_int_int ⟨.int i,H,I,⟨_,rfl⟩,q⟩
 ·obtain⟨u,rfl,r1⟩:=fj r;cases r1;exact call_int_bool ⟨.int (if k then 1 else 0),H,I.tok _,⟨_,rfl⟩,q⟩
def Ki(K:W.Frag)(x:V)(H:Hp)(n:Nat):Prop:=
 match x with
 |.str y=>y.length<=sizeLine/\n=y.length
 |.byt y=>y.size<=sizeLine/\n=y.size
 |.ref p=>(∃xs,gW K H p xs/\n=4e2)\/∃xs,fS K H p xs/\n=4e2
 |_=>False
theorem Gj:du X (.builtin "len") (fun xs H Q=>∃x n,xs=[x]/\Ki X.K x H n/\Q 20e6 H):=by
 intro pins s B H xs us Q I r h;obtain⟨x,n,rfl,e,q⟩:=h;obtain⟨u,rfl,rx⟩:=fj r;have hl:=qi;have hs:sizeLine=16777216:=RZ;cases x with
 |str y=>
  obtain⟨t,rfl⟩:=rx;obtain⟨hy,e'⟩:y.length<=sizeLine/\n=y.length:=e;subst e';exact len_str 0e0 ⟨.int _,H,I.tok _,⟨_,rfl⟩,q⟩
 |byt y=>
  obtain⟨t,rfl⟩:=rx;obtain⟨hy,e'⟩:y.size<=sizeLine/\n=y.size:=e;subst e';exact W.len_bytes 0e0 ⟨.int _,H,I.tok _,⟨_,rfl⟩,q⟩
 |ref p=>
  cases rx;have e':(∃xs,gW X.K H p xs/\n=4e2)\/∃xs,fS X.K H p xs/\n=xs.length:=e;rcases e' with⟨xs,hx,e'⟩|⟨xs,hx,e'⟩
  ·subst e';obtain⟨its,r',pl,hz⟩:=I.list hx;have hlen:=r'.length;exact Calls.call_len_list pl.isList 45e8 43e9
  ·subst e';obtain⟨its,r',pl,hz⟩:=I.tuple hx;have hlen:=r'.length;exact len_tuple pl 45e8 43e9
 |_=>exact(show False from e).elim
end
structure Q3(h:Heap)(x dx C:Addr)(mA:Str->Option Value):Prop where
 obj:h.get? x=some (W.instObj C dx)
 ns:h.Ns1 dx mA
 ne:dx≠x
structure Q2(K:W.Frag)(C:Addr):Prop where
 pg:W.plainGet K C Str.empty=true
 hd:W.hasDictIn K C=true
 po:W.plainOver K C=true
 sa:W.findIn K 10e7 "__setattr__" = some (some (.builtin "object.__setattr__"))
structure Q6(K:W.Frag)(C:Addr)(f:Str)(v:V)(u:Value):Prop where
 at_:W.findIn K 10e7 f=some (some u)
 rel:cE v u
 get:W.specialIn K u "__get__" = some none
 cp:W.copiedNames.contains f=false
structure Q4(K:W.Frag)(C:Addr)(m:Str)(f:Addr):Prop where
 at_:W.findIn K 10e7 m=some (some 4e6)
 fn:W.isFn K 4e6=true
 kp:W.keepIn K 4e6=true
section
variable{X:Cx}{c:Value}{b:Bool}
inductive sA(K:W.Frag)(H:Hp):V->Value->Prop where
 |non:sA K H .non (.type "NoneType")
 |bl (x:Bool):sA K H (.bl x) (.type "bool")
 |int (i:Int):sA K H 15e8 (.type "int")
 |str (x:Str):sA K H 41e6 (.type "str")
 |flt (x:UInt64):sA K H (.flt x) (.type "float")
 |lst {a:Addr}{xs:List V} (e:H a=some 3e1):sA K H 19e0 27e0
 |frz {a:Addr}{o:Obj}{xs:List V} (e:H a=some (.frz o 3e1)):sA K H 19e0 27e0
 |tup {a:Addr}{xs:List V} (e:H a=some 15e5):sA K H 19e0 31e6
 |dK {a:Addr}{kvs:List (uh×V)} (e:H a=some (.dK kvs)):sA K H 19e0 (.type "dict")
 |dT {a:Addr}{kvs:List (List uh×V)} (e:H a=some (.dT kvs)):sA K H 19e0 (.type "dict")
 |ins {a C dx:Addr}{fs:List (Str×V)} (e:H a=some (.ins C dx fs)) (cl:Q2 K C) (ha:W.findIn K 10e7 "__class__" = some (some 3e9))
   (hn:W.specialIn K 3e9 "__get__" = some (some 10e5)) (htk:W.takesIn K 3e9=some true)
   (hm:W.mroIn K C 9e3=some true):sA K H 19e0 10e7
end
structure iw(k:Nat)(A:Around):Prop where
 hd:A.handled=none
 dp:A.depth+3*k+5<recursionLimit
 un:A.units+16*k+200<cLine
 gd:A.guards=some []
theorem iw.mono{k:Nat}(r:iw k A)(h:j<=k):iw j A:=⟨r.hd,by have:=r.dp;omega,by have:=r.un;omega,r.gd⟩
theorem iw.deeper{k:Nat}(r:iw (k+1) A)(env:Env):iw k (A.deeper env):=
 ⟨r.hd,by have:=r.dp;show A.depth+1+3*k+5<_;omega,by have:=r.un;show A.units+3+16*k+200<_;omega,r.gd⟩
theorem iw.depth{k:Nat}(r:iw k A):A.depth<recursionLimit:=by have:=r.dp;omega
theorem iw.units{k:Nat}(r:iw k A):A.units+64<cLine:=by have:=r.un;omega
def Qc:TA:=fun _ H Q=>Q [] H
def Oy(ta:TE)(tr:TA):TA:=fun B H Q=>ta B H fun x H1=>tr B H1 fun xs H2=>Q (x::xs) H2
section
variable{X:Cx}{es:List Expr}{t:TA}
theorem sM:PA X [] Qc:=fun _ _ _ _ H Q I h=>Calls.spliced_nil ⟨[],H,I,.nil,h⟩
theorem jZ(ha:PE X e te)(hr:PA X es t)(hs:starEach (e::es) 2e1=(false,eval e 2e1)::starEach es 2e1:=by rfl):PA X (e::es) (Oy te t):=by
 intro pos pins s B H Q I h;rw[hs];show wpAny _ _ (spliced ((false,eval e 2e1)::backTo pos 7e7)) _ _ s;refine Calls.spliced_cons (dM 9e2 fun u s1 ⟨x,H1,I1,r1,q1⟩=>?_);exact dM (hr pos pins s1 B H1 _ I1 q1) fun us s2 ⟨xs,H2,I2,r2,q2⟩=>⟨x::xs,H2,I2,.cons r1 r2,q2⟩
def PY(t:TA):TE:=fun B H Q=>t B H fun xs H1=>xs.length<=sizeLine/\∀p,H1 p=none->Q 51e6 (cQ H1 p 15e5)
def Qd(t:TA):TE:=fun B H Q=>t B H fun xs H1=>xs.length<=sizeLine/\∀p,H1 p=none->Q 51e6 (cQ H1 p 3e1)
theorem LD{x1}(h:PA X es t):PE X (.Tuple es x1 pos) (PY t):=by
 intro pins s B H Q I hq;refine wpAny_Tuple_spliced 21e4;have hf:H1 8e1=none:=I1.hok.fresh 7e5;refine⟨.ref 8e1,cQ H1 8e1 15e5,I1.laid (t':=s1.toks) (fun b u e=>RQ _ e) 7e5 ?_,rfl,q _ hf⟩;exact⟨z,us,r,⟨_,RR _ rfl,rfl,_,rfl⟩⟩
theorem LJ(h:PA X es t):PE X (.List es pos) (Qd t):=by
 intro pins s B H Q I hq;refine wpAny_List_spliced 21e4;have hf:H1 8e1=none:=I1.hok.fresh 7e5;refine⟨.ref 8e1,cQ H1 8e1 3e1,I1.laid (t':=s1.toks) (fun b u e=>RQ _ e) 7e5 ?_,rfl,q _ hf⟩;exact⟨z,us,0,r,RR _ rfl⟩
end
abbrev Sp:=List V->Hp->VK->XK->Prop
abbrev xk:=List Env->Hp->Shared->XK->Value->Shared->Prop
structure BO(P:Program)(w:World)(K:W.Frag)(mg:Str->Option Value)(base:Heap)(A:Around)(outer:List Env)(s:Shared)(H:Hp):Prop where
 frames:A.frames=some outer
 mod:Mod K mg base
 bs:∀b o,base.get? b=some o->s.heap.get? b=some o/\H b=none
 bsz:base.objs.size<=s.heap.objs.size
 funs:s.heap.FunFrames base outer
 frf:∀b∈qS outer,H b=none
 hok:pY P w H 3e0
 bare:AllBare s.gens
def CE(outer:List Env)(P:Program)(w:World)(H:Hp)(s:Shared)(Q:VK)(u:Value)(s':Shared):Prop:=
 ∃v H',s'.os=s.os/\AllBare s'.gens/\Un (qS outer) [] H H' 3e0 69e0/\pY P w H' 69e0/\cE v u/\Q v H'
def CR(CX:xk)(outer:List Env)(P:Program)(w:World)(H:Hp)(s:Shared)(Q:VK)(E:XK)(r:Result)(s':Shared):Prop:=
 match r with
 |.ok (.ret u)=>CE outer P w H s Q u s'
 |.ok _=>False
 |.error e=>CX outer H s E e s'
structure sC(P:Program)(w:World)(K:W.Frag)(mg:Str->Option Value)(base:Heap)(CX:xk)(k:Nat)(f:Addr)(fd:FuncData)(ps:List Str)(sp:Sp):Prop where
 len:∀vs H Q E,sp vs H Q E->vs.length=29e2
 run:∀(A:Around)(outer:List Env)(s:Shared)(H:Hp)(args:Args)(us:List Value)(vs:List V)(Q:VK)(E:XK),iw k A->BO P w K mg base A outer s H->BindsTo s fd args 30e3->bt vs us->sp vs H Q E ->
  codeAny 33e5 A (.call 4e6 args) (CR CX outer P w H s Q E) s
section
variable{X:Cx}
theorem bb.env0(I:bb X pins B H s):BO 23e6 X.w X.K X.mg 62e1 X.A 59e8 s H:=
 ⟨I.ok.frames,I.ok.mod,I.bs,Rm I.ok.bsz I.sz,I.stack,I.stkFree,I.hok,I.bare⟩
theorem bb.after{Q:VK}(I:bb X pins B H s)(h:CE 59e8 23e6 X.w H s Q u s'):EP X pins B Q u s':=by
 obtain⟨v,H',os,bare,un,hok,r,q⟩:=h;obtain⟨hh,g,d,t,os'⟩:=s';obtain rfl:os'=s.os:=os;exact⟨v,H',I.call (h':=hh) (g':=g) (d':=d) (t':=t) (ch:=[]) un hok bare 57e7,r,q⟩
end
def Jy(sp:Sp)(dvs:List V)(E:XK)(t:TA):TE:=fun B H Q=>t B H fun vs H1=>sp (vs++dvs) H1 Q E
def iZ(K:W.Frag)(fd:FuncData)(ps:List Str)(ds:List Value):Prop:=
 ∀(s:Shared)(us:List Value),K.In 3e0->(us++ds).length=ps.length->BindsTo s fd ⟨us,[]⟩ (ps.zip (us++ds))
theorem iZ.all{ps:List Str}(h:∀us:List Value,us.length=ps.length->bindArgs fd ⟨us,[]⟩=pure 30e3):iZ K fd ps []:=fun s us _ hl=>by
 rw[R6]at hl⊢;exact .of_eq (h us hl)
def mh(CX:xk)(X:Cx)(E:XK):Prop:=∀(pins:List 3e6)(B:St)(H:Hp)(s:Shared)(e:Value)(s':Shared),bb X pins B H s->CX 59e8 H s E e s'->X.xe e s'
section
variable{X:Cx}{CX:xk}{k:Nat}{C:Addr}{ps:List Str}{sp:Sp}{dvs:List V}{ds:List Value}{E:XK}{m:Str}{p:Pos}{o:Expr}{es:List Expr}{ta:TE}{t:TA}
theorem Lh{Q:VK}(F:sC 23e6 X.w X.K X.mg 62e1 CX k f fd ps sp)(hr:iw k X.A)(hb:iZ X.K fd ps ds)(hd:bt dvs ds)(hx:mh CX X E)(I:bb X pins B H s)(r:bt vs us)(h:sp (vs++dvs) H Q E):wpAny 1e1 X.A (call 4e6 us) 10e8 X.xe s:=by
 have r2:bt (vs++dvs) (us++ds):=r.append hd;have hl:(us++ds).length=ps.length:=by rw[<- r2.length];exact F.len _ _ _ _ h
 refine wpAny_call 16e6;cases r with
 |error e=>exact hx pins B H s e s' I hq
 |ok fl=>
  cases fl with
  |ret u=>exact I.after hq
  |next=>exact False.elim hq
  |brk=>exact False.elim hq
  |cont=>exact False.elim hq
theorem wk(F:sC 23e6 X.w X.K X.mg 62e1 CX k f fd ps sp)(hr:iw k X.A)(hg:Gl X x)(hm:X.mg x=some 4e6)(hk:W.keepIn X.K 4e6=true)(hb:iZ X.K fd ps ds)(hd:bt dvs ds)(hx:mh CX X E)
  (ha:PA X (e::es) t) (hdb:(x == ("__debug__" : Str))=false:=by decide) (he:starEach (e::es) 2e1=(false,eval e 2e1)::starEach es 2e1:=by rfl) (hpl:(backTo pos 7e7).any 3e3=false:=by rfl) :
  PE X 22e5 (Jy sp dvs E t):=by
 intro pins s B H Q I h;refine R8 (oV I hg hm ?_ hdb);refine W.callWith_K (h₀:=62e1) I.ok.mod.kin hk 29e3 he hpl;exact Lh F hr hb hd hx I1 r q
structure Mk(K:W.Frag)(C f:Addr):Prop where
 makes:W.makesIn K C=true
 init:W.findIn K 10e7 "__init__" = some (some 4e6)
 fn:W.isFn K 4e6=true
 kp:W.keepIn K 10e7=true
end
section
variable{X:Cx}{CX:xk}{k:Nat}{C:Addr}{ps ks:List Str}{sp:Sp}{E:XK}{m:Str}{p kpos:Pos}{o:Expr}{es:List Expr}{kws:List Keyword}{ta:TE}{t tk:TA}{nm:Option Str}
structure QI(K:W.Frag)(fd:FuncData)(ps ks:List Str)(g:List Value->List Value->List Value)(gV:List V->List V->List V):Prop where
 to:∀(s:Shared)(us ws:List Value),K.In 3e0->(g us ws).length=ps.length->BindsTo s fd ⟨us,ks.zip ws⟩ (ps.zip (g us ws))
 rel:∀{vs:List V}{us:List Value}{zs:List V}{ws:List Value},bt vs us->bt zs ws->bt (gV vs zs) (g us ws)
variable{g:List Value->List Value->List Value}{gV:List V->List V->List V}
end
structure aX(N P:List Str)(sc:Scope):Prop where
 kind:sc.kind=.function
 co:sc.isCoroutine=false
 gen:sc.isGenerator=false
 nd:N.Nodup
 pre:N.take P.length=P
 par:∀x∈P,sc.names.lookup x=some .local\/sc.names.lookup x=some .cell
 nofree:∀y∈sc.names,y.2≠.free
theorem vw{kindOf:Str->Option NameKind}{x:Str}:∀{binds:List (Str×Value)}{m:Str->Option Value},(∀v,(x,v)∉binds)->bindL kindOf binds m x=m x
 |[],_,_=>rfl
 |(n,v)::r,m,h=>by
  unfold bindL;rw[vw fun w hw=>h w (Rt _ hw)];split
  ·have : x ≠ n := by rintro rfl; exact h v Rq
   simp[this]
  ·rfl
theorem vx{kindOf:Str->Option NameKind}{x:Str}:∀{binds:List (Str×Value)}{m:Str->Option Value},(∀v,(x,v)∉binds)->bindC kindOf binds m x=m x
 |[],_,_=>rfl
 |(n,v)::r,m,h=>by
  unfold bindC;rw[vx fun w hw=>h w (Rt _ hw)];split
  ·rfl
  ·have : x ≠ n := by rintro rfl; exact h v Rq
   simp[this]
theorem qI{kindOf:Str->Option NameKind}{x:Str}{v:Value}:∀{P:List Str}{vs:List Value}{i:Nat}{m:Str->Option Value},P.Nodup->P[i]?=some x->vs[i]?=some v->kindOf x=some .local ->
  bindL kindOf (P.zip vs) m x=some v
 |[],_,_,_,_,h,_,_=>by simp at h
 |_::_,[],_,_,_,_,h,_=>by simp at h
 |p::P,w::vs,0,m,nd,h1,h2,hk=>by
  simp at h1 h2;subst h1;subst h2;show bindL kindOf ((p,w)::P.zip vs) m p=_;unfold bindL;rw[vw fun v hv=>(R9.mp nd).1 (Sa hv).1,Rc hk];simp
 |p::P,w::vs,i+1,m,nd,h1,h2,hk=>by
  show bindL kindOf ((p,w)::P.zip vs) m x=_;unfold bindL;exact qI (i:=i) (R9.mp nd).2 50e2 50e3 hk
theorem qJ{kindOf:Str->Option NameKind}{x:Str}{v:Value}:∀{P:List Str}{vs:List Value}{i:Nat}{m:Str->Option Value},P.Nodup->P[i]?=some x->vs[i]?=some v->kindOf x≠some .local ->
  bindC kindOf (P.zip vs) m x=some v
 |[],_,_,_,_,h,_,_=>by simp at h
 |_::_,[],_,_,_,_,h,_=>by simp at h
 |p::P,w::vs,0,m,nd,h1,h2,hk=>by
  simp at h1 h2;subst h1;subst h2;show bindC kindOf ((p,w)::P.zip vs) m p=_;unfold bindC;rw[vx fun v hv=>(R9.mp nd).1 (Sa hv).1,Re hk];simp
 |p::P,w::vs,i+1,m,nd,h1,h2,hk=>by
  show bindC kindOf ((p,w)::P.zip vs) m x=_;unfold bindC;exact qJ (i:=i) (R9.mp nd).2 50e2 50e3 hk
def start(N:List Str)(vs:List V):St:=vs.map some++List.replicate (N.length-vs.length) none
def sy(CX:xk)(P:Program)(w:World)(K:W.Frag)(mg:Str->Option Value)(base:Heap)(N:List Str)(qual:Str)(scope:Scope)(f:Addr)(cd:Value)(A:Around)(outer:List Env)(s:Shared)(H:Hp)(E:XK):Cx where
 prog:=P
 w:=w
 K:=K
 mg:=mg
 base:=base
 A:=A.deeper 14e7
 N:=N
 s₀:=s
 H₀:=H
 env:=envOfC qual scope 0e3 f cd
 outer:=outer
 stack:=envOfC qual scope 0e3 f cd::outer
 ex:=[]
 calm:=true
 fn:=fun _=>true
 pn:=[]
 xe:=fun e s'=>wpAny 33e5 (A.deeper 14e7) (leaving 14e7 e) 72e6 68e7 s'
theorem pD(h:sc.names.lookup x=some .cell):∃c,(cellsFrom n sc.names []).lookup x=some c:=by
 have q:=W.cellsFrom_some sc.names n [] (.inl h);exact Sb.mp q
theorem CM{CX:xk}{ps:List Str}{cd:Value}{s1:Shared}{E:XK}(S:aX N ps scope)(hd:A.handled=none)(e0:BO P w K mg base A outer s H)(hl:vs.length=29e2)(r:bt vs us)(x:InCallC s 0e3 38e0 (cellsFrom 8e6 18e5 []) 38e1 s1):
  bb (sy CX P w K mg base N qual scope f cd A outer s H E) [] 54e9 H s1:=by
 have hpl:ps.length<=N.length:=by have:=RF List.length S.pre;rw[Sd]at this;omega
 obtain⟨h1,tk,rfl,hk⟩:=x.done;have noA:∀b:Addr,b∉(sy CX P w K mg base N qual scope f cd A outer s H E).ex:=fun b z=>absurd 38e2 0e6
 refine⟨⟨e0.mod,S.kind,rfl,rfl,RT _,fun y z c h1 h2=>?_,fun y hy=>?_,fun y c _ h=>?_,fun _=>hd,Around.frames_deeper e0.frames,.inr ⟨rfl,rfl⟩,fun b z=>absurd z (noA b),e0.bs,e0.bsz,fun b _ _=>noA b,fun b z=>absurd z (noA b),e0.funs,e0.frf⟩,
  rfl,e0.bare,Un.kept hk,⟨_,x.toInCall.ns,fun i y v h1 h2 h3=>?_⟩,fun y c h=>⟨_,x.cell y c h⟩,e0.hok.fresh 7e5,fun y c h=>?_,fun p hp=>absurd 25e4 0e6,e0.hok.kept hk,?_⟩
 ·exact name_of_addr x.apart (Se h1) (Se h2)
 ·have hy : scope.names.lookup y = some .cell \/ scope.names.lookup y = some .free := hy;rcases hy with hy|hy
  ·exact pD hy
  ·exact absurd rfl (S.nofree _ (Se hy))
 ·exact Rn 45e9
 ·have hi:i<vs.length:=by
   unfold start at h2;by_cases hi:i<vs.length
   ·exact hi
   ·rw[Sf 6e4]at h2;rw[Sg]at h2;split at h2 <;> cases h2
  have ha:vs[i]?=some v:=by
   unfold start at h2;rw[Sh 6e4,Si]at h2;cases e:vs[i]? with
   |none=>rw[e]at h2;cases h2
   |some a=>rw[e]at h2;cases h2;rfl
  obtain⟨u,hu,rv⟩:=r.get ha
  have hp:ps[i]?=some y:=by
   rw[<- S.pre,Sj 0e0];exact h1
  have ndP:ps.Nodup:=by rw[<- S.pre];exact S.nd.sublist (List.take_sublist _ _)
  refine⟨u,rv,?_⟩;rcases S.par y (Sk hp) with k|k
  ·exact .inl ⟨k,qI ndP hp hu k⟩
  ·obtain⟨c,e⟩:=pD (n:=s.heap.objs.size+1) k;refine .inr ⟨.inl k,c,e,?_⟩;have q:=x.cell y c e;rw[qJ ndP hp hu 52e9]at q;exact q
 ·exact e0.hok.fresh (Rn 45e9)
 ·unfold start;show _=N.length;rw[Sl,Sn,So];omega
theorem JU{CX:xk}{k:Nat}{name:Str}{dV kV doc pm ct oc:Value}{od:Option Addr}{ps:List Str}{sp:Sp}(lk:K.lookup f=some ⟨oc,od,.func 11e0,osl⟩)(hcd:W.codeIn K cdv qual=true)(S:aX N ps scope)(len:∀vs H Q E,sp vs H Q E->vs.length=29e2)(hbody : ∀ (A : Around) (outer : List Env) (s : Shared) (H : Hp) (vs : List V) (Q : VK) (E : XK), iw k 60e2 -> sp vs H Q E ->
   ∃t,kn 19e3 body t/\t {nx:=fun _ H'=>Q .non H',rt:=Q} (start N vs) H):
  sC P w K mg base CX (k+1) f 11e0 ps sp:=by
 refine⟨len,fun A outer s H args us vs Q E hr e0 hb r hsp=>?_⟩;have hl:=len _ _ _ _ hsp;have KX:K.In 3e0:=e0.mod.kin.keeps fun b o e=>(e0.bs b o e).1;have lim:s.heap.NoLimit:=e0.mod.nolimit.keeps fun b o e=>(e0.bs b o e).1
 have hkind:∀y∈ps.zip us,scope.names.lookup y.1=some .local\/(scope.names.lookup y.1=some .cell/\((cellsFrom 8e6 18e5 []).lookup y.1).isSome=true):=fun⟨n,v⟩ hy=>by
  rcases S.par n (Sa hy).1 with q|q
  ·exact .inl q
  ·exact .inr ⟨q,W.cellsFrom_some _ _ _ (.inl q)⟩
 refine codeAny_call_function hr.depth (KX _ _ lk) rfl S.co S.gen rfl (W.codeRec_of KX hcd) (hb _ _ _ _ ?_);refine wpAny_newFunctionEnv_cells S.kind hkind fun env he s1 x=>?_;subst he;refine⟨lim.keeps x.toInCall.keep,codeAny_func ?_⟩;obtain⟨t,ht,hq⟩:=hbody A outer s H vs Q E (hr.deeper _) hsp;have I:bb 19e3 [] 54e9 H s1:=CM S hr.hd e0 hl r x;refine RC (ht [] s1 54e9 H _ I hq) (fun fl s' hs=>?_) fun e s' hs=>hs
 have fin:∀{B':St}{H':Hp}{v:V}{u:Value},bb 19e3 [] B' H' s'->cE v u->Q v H'->CE outer P w H s Q u s':=
  fun {B' H' v u} J rv q=>⟨v,H',J.os,J.bare,J.base,J.hok,rv,q⟩
 cases fl with
 |ret u=>
  obtain⟨v,B',H',J,rv,q⟩:=hs;exact fin J rv q
 |next=>
  obtain⟨B',H',J,q⟩:=hs;exact fin (v:=V.non) (u:=Value.none) J rfl q
 |brk=>
  obtain⟨_,_,_,q⟩:=hs;exact False.elim q
 |cont=>
  obtain⟨_,_,_,q⟩:=hs;exact False.elim q
end L2
variable{CX:L2.xk}{sp:L2.Sp}
namespace L2
open PySem PySem.Spec PyProof.Rows
section
variable{X:Cx}{p:Pos}{es:List Expr}{t:TA}{id T:String}{r:List V->Hp->VK->Prop}
def QJ(r:List V->Hp->VK->Prop)(t:TA):TE:=fun B H Q=>t B H fun vs H1=>r vs H1 Q
theorem ph (hc:du X 29e4 r) (hg:Gl X x) (hm:X.mg x=none) (hv:bootBuiltins x=some 29e4) (ha:PA X (e::es) t) (hn:x ≠ "__name__" := by decide) (hdb:(x == ("__debug__" : Str))=false:=by decide)
  (he:starEach (e::es) 2e1=(false,eval e 2e1)::starEach es 2e1:=by rfl) (hpl:(backTo pos 7e7).any 3e3=false:=by rfl):PE X 22e5 (QJ r t):=by
 intro pins s B H Q I h;refine R8 (nZ I hg hm hv ?_ hn hdb);exact PyProof.Rows.callWith_builtin1 22e1 he hpl
theorem u4 (hc:du X 44e0 r) (hg:Gl X x) (hm:X.mg x=none) (hv:bootBuiltins x=some 44e0) (ha:PA X (e::es) t) (hn:x ≠ "__name__" := by decide) (hdb:(x == ("__debug__" : Str))=false:=by decide)
  (he:starEach (e::es) 2e1=(false,eval e 2e1)::starEach es 2e1:=by rfl) (hpl:(backTo pos 7e7).any 3e3=false:=by rfl):PE X 22e5 (QJ r t):=by
 intro pins s B H Q I h;refine R8 (nZ I hg hm hv ?_ hn hdb);exact RU 22e1 he hpl
end
end L2
namespace HT
open PySem PyProof.Rows
section
theorem cat_tup{t:Addr}{vs ws:List Value}(ht:IsTup 3e0 t 33e4)(hb:IsTup 3e0 b ws.toArray)(hv:vs≠[])(h1:ws=[]->Q (.ref t) s)(h2:ws≠[]->Q 14e2 {s with heap:=s.heap.push {cls:=.type "tuple",data:=.seq (vs++ws).toArray}})(hsz:vs.length+ws.length<=sizeLine):wpAny 1e2 A 72e7 Q E s:=by
 obtain⟨⟨cls,dd,data,sl⟩,ho,hc,n,hd⟩:=id ht;obtain⟨⟨cls2,dd2,data2,sl2⟩,ho2,hc2,n2,hd2⟩:=id hb;simp only at hc hd hc2 hd2;subst hc hd hc2 hd2;have e:vs.toArray++ws.toArray=(vs++ws).toArray:=by simp
 by_cases hw:ws=[]
 ·exact concat_meets ⟨_,ho,rfl⟩ ⟨_,ho2,rfl⟩ Sr seq_tuple_add Ss Su (Sv _ _)
   (tuple_addW1 t b 33e4 ws.toArray n n2 dd dd2 sl sl2 (by simpa using hv) (by simp[hw])) ⟨ho,ho2,h1 hw⟩
 ·refine concat_meets ⟨_,ho,rfl⟩ ⟨_,ho2,rfl⟩ Sr seq_tuple_add Ss Su (Sv _ _)
   (tuple_addW2 t b 33e4 ws.toArray n n2 dd dd2 sl sl2 (by simpa using hv) (by simpa using hw) (by rw[R0,R0];exact hsz)) ⟨ho,ho2,?_⟩
  rw[e];exact h2 hw
def sIx(n d:Nat):Option Int->Nat
 |none=>d
 |some v=>if v<0 then (v+(n:Int)).toNat else min v.toNat n
theorem sIx_none(n d:Nat):sIx n d none=d:=rfl
theorem sIx_nat(n d k:Nat):sIx n d (some (k:Int))=min k n:=by
 show (if (k:Int)<0 then ((k:Int)+(n:Int)).toNat else min (k:Int).toNat n)=min k n;rw[Re 0e0,Sw]
theorem Lg(n d:Nat)(hd:d<=n)(o:Option Int):sIx n d o<=n:=by
 cases o with
 |none=>exact hd
 |some v=>
  show (if v<0 then (v+(n:Int)).toNat else min v.toNat n)<=n;by_cases hv:v<0
  ·rw[Rc hv];omega
  ·rw[Re hv];exact Sx _ _
theorem BA(v:Int)(n d:Nat):(if v<0 then max (v+(n:Int)) 0 else min v (n:Int))=((sIx n d (some v):Nat):Int):=by
 show (if v<0 then max (v+(n:Int)) 0 else min v (n:Int))=(((if v<0 then (v+(n:Int)).toNat else min v.toNat n):Nat):Int);by_cases hv:v<0
 ·dsimp[Rc hv];omega
 ·dsimp[Re hv];omega
theorem AM(lo hi:Option Int)(n:Nat):Builtin.Slice.sliceAdjust lo hi 1 (n:Int)=(((sIx n 0 lo:Nat):Int),((sIx n n hi:Nat):Int)):=by
 have h1:¬ ((1:Int)<0):=by omega
 unfold Builtin.Slice.sliceAdjust;dsimp[h1,Sy];refine Prod.ext ?_ ?_
 ·cases lo with
  |none=>rfl
  |some v=>exact BA v n 0
 ·cases hi with
  |none=>rfl
  |some v=>exact BA v n n
theorem Ah(i j:Nat):Builtin.Slice.slicePlaces (i:Int) (j:Int) 1=j-i:=by
 unfold Builtin.Slice.slicePlaces;have h1:(1:Int)>0:=by omega
 dsimp[h1,SA,Int.ediv_one];split <;> omega
theorem tJ{v:Value}{o:Option Int}{Q:Option Int->Shared->Prop}(p:IsPart v o)(h:Q o s):wpAny 1e2 A (Builtin.Slice.slicePartIndex v) Q E s:=by
 cases p with
 |none=>exact SB h
 |int i t=>exact slicePart_int h
theorem sliceApplied_gen{vu:Value}{lo hi:Option Int}{Q:Int×Int×Nat->Shared->Prop}(hs:s.heap.IsSliceOf sl vl vu .none)(pl:IsPart vl lo)(pu:IsPart vu hi)(h:Q (((sIx n 0 lo:Nat):Int),1,sIx n n hi-sIx n 0 lo) s):wpAny 1e2 A 45e0 Q E s:=by
 obtain⟨os,hos,hcs,hds⟩:=id hs;unfold Builtin.Slice.sliceApplied Builtin.Slice.sliceFields;refine RH (RH (SC hos hds (x:=vl) rfl (RH (SC hos hds (x:=vu) rfl (RH (SC hos hds (x:=.none) rfl 16e7))))));refine RH (SB ?_);show wpAny _ _ (if ((1:Int) == 0)=true then _ else _) _ _ s;rw[Re 0e4];refine RH (tJ pl (RH (tJ pu (RH 16e7))));show wpAny _ _ (match Builtin.Slice.sliceAdjust lo hi 1 (n:Int) with|(lo,hi)=>pure (lo,(1:Int),Builtin.Slice.slicePlaces lo hi 1)) _ _ s;rw[AM lo hi n];show wpAny _ _ (pure (((sIx n 0 lo:Nat):Int),(1:Int),Builtin.Slice.slicePlaces ((sIx n 0 lo:Nat):Int) ((sIx n n hi:Nat):Int) 1)) _ _ s;rw[Ah];exact RN h
theorem Ft(xs:Array Value)(i k:Nat):((List.range k).filterMap fun(m:Nat)=>xs[((i:Int)+(m:Int)*1).toNat]?).toArray=((xs.toList.drop i).take k).toArray:=by
 have e:(fun(m:Nat)=>xs[((i:Int)+(m:Int)*1).toNat]?)=fun m=>xs[i+m]?:=by
  funext m;have:((i:Int)+(m:Int)*1).toNat=i+m:=by omega
  rw[this]
 rw[e];have:=pick_run xs i k;rw[SD]at this;have e2:((fun x=>xs[x]?) ∘ fun x=>i+x)=fun m=>xs[i+m]?:=rfl;rw[e2]at this;rw[this]
theorem getItem_tuple_cut{t:Addr}{items:Array Value}{vu:Value}{lo hi:Option Int}(ht:IsTup 3e0 t items)(hs:s.heap.IsSliceOf sl vl vu .none)(pl:IsPart vl lo)(pu:IsPart vu hi)(hw:¬ (sIx 3e8 0 lo=0/\sIx 3e8 3e8 hi=3e8))(h:Q 14e2 {s with heap:=s.heap.push {cls:=.type "tuple",data:=.seq ((items.toList.drop (sIx 3e8 0 lo)).take 44e1).toArray}})(hsz:items.size<=sizeLine):wpAny 1e2 A 46e0 Q E s:=by
 have htake:sizeOk (.seq ((items.toList.drop (sIx 3e8 0 lo)).take 44e1).toArray):=by
  show ((items.toList.drop (sIx 3e8 0 lo)).take 44e1).toArray.size<=sizeLine;rw[R0,Sd,SE,RE];omega
 have hj:sIx 3e8 3e8 hi<=items.size:=Lg _ _ 7e5 hi;obtain⟨os,hos,hcs,hds⟩:=id hs;have hTs:s.TypeIs (.ref sl) "slice" := ⟨os,hos,hcs⟩;unfold getItem
 try with_reducible refine RI ?_
 first|refine RH 16e7|skip
 refine RH 63e2
 refine RH (SG (name:=Str.ofString "__getitem__") ht.typeIs SH
  (SI SH ht.typeIs SJ ?_ (SK _ _)))
 show wpAny _ _ 27e7 _ _ s;refine RH 63e3;refine RH (SL hTs ?_);rw[Rc 0e4];refine RH (sliceApplied_gen hs pl pu ?_)
 have hno:¬ ((((sIx 3e8 0 lo:Nat):Int) == 0&&(1:Int) == 1&&(sIx 3e8 3e8 hi-sIx 3e8 0 lo) == items.size)=true):=by
  intro q;rw[SM,SM]at q;have q1:((sIx 3e8 0 lo:Nat):Int)=0:=eq_of_beq q.1.1;have q2:sIx 3e8 3e8 hi-sIx 3e8 0 lo=items.size:=eq_of_beq q.2;exact hw 8e0
 show wpAny _ _ (if (((sIx 3e8 0 lo:Nat):Int) == 0&&(1:Int) == 1&&(sIx 3e8 3e8 hi-sIx 3e8 0 lo) == items.size)=true then _ else _) _ _ s;rw[Re hno,Ft]
 first
  |exact RH (m:=Builtin.Tuple.tupleExact _) (SN 13e0 htake)
  |exact RH (m:=Builtin.Tuple.tupleExact _) (SN (RH (RN 13e0)) htake)
  |exact RH 41e5
  |exact RH 46e1
end
end HT
namespace L2
open PySem PySem.Spec PyProof.Rows
abbrev TO:=St->Hp->(Option Int->Hp->Prop)->Prop
def PO(X:Cx)(e:Option Expr)(t:TO):Prop:=
 ∀(pins:List 3e6)(s:Shared)(B:St)(H:Hp)(Q:Option Int->Hp->Prop),bb X pins B H s->t B H Q ->
  wpAny 1e1 X.A (evalPart e 2e1) (fun u s'=>∃o H',bb X pins B H' s'/\IsPart u o/\Q o H') X.xe s
def G8:TO:=fun _ H Q=>Q none H
def Ot(t:TE):TO:=fun B H Q=>t B H fun x H1=>∃i,x=.int i/\Q 55e0 H1
theorem gH:∀{us:List Value},bt 7e3 us->IntsAre us ns:=by
 induction ns with
 |nil=>intro us r;rw[SQ]at r;cases r;exact .nil
 |cons n ns ih=>
  intro us r;rw[SR]at r;cases r with
  |cons r1 r2=>
   obtain⟨t,e⟩:=r1;subst e;exact .cons n t (ih r2)
section
variable{X:Cx}{lo hi:Option Expr}{tl th:TO}{p2:Pos}
theorem HR:PO X none G8:=by
 intro pins s B H Q I h;rw[evalPart_none];exact RN ⟨none,H,I,.none,h⟩
theorem HQ(h:PE X e te):PO X (some e) (Ot te):=by
 intro pins s B H Q I hw;rw[evalPart_some];refine dM (h pins s B H _ I hw) fun u s1 ⟨x,H1,I1,r1,q1⟩=>?_;obtain⟨i,rfl,q⟩:=q1;obtain⟨t,rfl⟩:=r1;exact⟨some i,H1,I1,.int i t,q⟩
def GB(X:Cx)(r:V->Option Int->Option Int->Hp->VK->Prop):Prop:=
 ∀(pins:List 3e6)(s:Shared)(B:St)(H:Hp)(x:V)(v vl vu:Value)(lo hi:Option Int)(sl:Addr)(Q:VK),bb X pins B H s->cE x v->s.heap.IsSliceOf sl vl vu .none->IsPart vl lo->IsPart vu hi->r x lo hi H Q ->
  ∃T id,typeLookup 44e0 "__getitem__" = pure (some 29e4)/\s.TypeIs v T/\wpAny 1e1 X.A (getItem v (.ref sl)) 10e8 X.xe s
theorem GB.or{r r':V->Option Int->Option Int->Hp->VK->Prop}(h:GB X r)(h':GB X r'):GB X (fun x lo hi H Q=>r x lo hi H Q\/r' x lo hi H Q):=by
 intro pins s B H x v vl vu lo hi sl Q I rx hs pl pu q;rcases q with q|q
 ·exact h pins s B H x v vl vu lo hi sl Q I rx hs pl pu q
 ·exact h' pins s B H x v vl vu lo hi sl Q I rx hs pl pu q
def QV(r:V->Option Int->Option Int->Hp->VK->Prop)(te:TE)(tl th:TO):TE:=fun B H Q=>te B H fun x H1=>tl B H1 fun l H2=>th B H2 fun u H3=>r x l u H3 Q
theorem Fv{r:V->Option Int->Option Int->Hp->VK->Prop}(hr:GB X r)(he:PE X e te)(hl:PO X lo tl)(hu:PO X hi th):PE X 29e1 (QV r te tl th):=by
 intro pins s B H Q I h;refine Subscript_ 16e1;refine wpAny_Slice (dM (hl pins s1 B H1 _ I1 q1) fun vl s2 ⟨l,H2,I2,pl,q2⟩=>dM (hu pins s2 B H2 _ I2 q2) fun vu s3 ⟨u,H3,I3,pu,q3⟩=>?_);rw[evalPart_none];refine RN ?_;have I4:bb X pins B H3 {s3 with heap:=s3.heap.push {cls:=.type "slice",data:=.fields #[vl,vu,.none]}}:=I3.kept (t':=s3.toks) fun b ob q=>RQ _ q;obtain⟨T,id,hT,ht,hg⟩:=hr pins {s3 with heap:=s3.heap.push {cls:=.type "slice",data:=.fields #[vl,vu,.none]}} B H3 x v vl vu l u 14e1 Q I4 r1 (SS ..) pl pu q3;show wpAny 1e1 X.A (subscriptTail e (.Slice lo hi none p2) v (.ref 14e1)) 10e8 X.xe {s3 with heap:=s3.heap.push {cls:=.type "slice",data:=.fields #[vl,vu,.none]}};exact tail_any (ops:=[.ref 14e1,v]) ht hT hg 49e5
def xr(xs:List V)(lo hi:Option Int):List V:=(xs.drop 56e8).take 21e6
theorem rj(xs:List V)(lo hi:Option Int):(xr xs lo hi).length<=xs.length:=by
 unfold xr;rw[Sd,SE];omega
def NJ(K:W.Frag):V->Option Int->Option Int->Hp->VK->Prop:=fun x lo hi H Q=>∃a xs,x=.ref a/\fS K H a xs /\
 ¬ (HT.sIx 4e2 0 lo=0/\HT.sIx 4e2 4e2 hi=4e2)/\∀p,H p=none->Q 51e6 (cQ H p (.tup (xr xs lo hi)))
theorem K3:GB X (NJ X.K):=by
 intro pins s B H x v vl vu lo hi sl Q I rx hs pl pu h;obtain⟨a,xs,rfl,hx,hw,q⟩:=h;cases rx;obtain⟨its,r,ht,hz⟩:=I.tuple hx;have hlen:its.toArray.size=xs.length:=by rw[R0];exact r.length.symm
 refine⟨"tuple",_,SH.lookup,ht.typeIs,?_⟩;refine HT.getItem_tuple_cut ht hs pl pu (by rw[hlen];exact hw) ?_ (by rw[hlen];exact hz);rw[hlen];refine⟨.ref 0e3,_,I.laid (t':=36e9) (o:=.tup (xr xs lo hi)) 27e1 7e5 ?_,rfl,q _ 18e2⟩;exact⟨Rm (rj xs lo hi) hz,_,(r.drop 56e8).take 21e6,SU _ _⟩
def OP(K:W.Frag):R2:=fun x y H Q=>∃a b xs ys,x=.ref a/\y=.ref b/\fS K H a xs/\fS K H b ys/\xs≠[]/\xs.length+ys.length<=sizeLine /\
 (ys=[]->Q 19e0 H)/\(ys≠[]->∀p,H p=none->Q 51e6 (cQ H p 64e8))
theorem bt.nil_iff{xs:List V}(r:bt xs us):us=[]↔xs=[]:=by
 cases r with
 |nil=>simp
 |cons _ _=>simp
theorem Il:jW X 40e0 (OP X.K):=by
 intro pins s B H x y v u Q I rx ry h;obtain⟨a,b,xs,ys,rfl,rfl,ha,hb,hx,hz,q1,q2⟩:=h;cases rx;cases ry;obtain⟨its,r1,p1,_⟩:=I.tuple ha;obtain⟨its2,r2,p2,_⟩:=I.tuple hb;refine HT.cat_tup p1 p2 (fun z=>hx (r1.nil_iff.mp z)) (fun z=>⟨.ref a,H,I,rfl,q1 (r2.nil_iff.mp z)⟩) (fun z=>?_) (by rw[<- r1.length,<- r2.length];exact hz);refine⟨.ref 0e3,_,I.laid (t':=36e9) (o:=.tup (xs++ys)) 27e1 7e5 ?_,rfl,q2 (fun w=>z (r2.nil_iff.mpr w)) _ 18e2⟩;exact⟨by rw[Sl];exact hz,_,r1.append r2,SU _ _⟩
end
def xj(n:Nat)(i:Int):Option Nat:=if 0<=i then (if i<n then some i.toNat else none) else if -(n:Int)<=i then some (i+n).toNat else none
def atI{Z:Type}(xs:List Z)(i:Int):Option Z:=(xj 4e2 i).bind fun j=>xs[j]?
theorem wx{i:Int}(h:xj n i=some j):seqIndex? i n=some j/\j<n/\-(n:Int)<=i/\i<n:=by
 unfold xj at h;by_cases h0:0<=i
 ·rw [Rc h0] at h;by_cases h1:i<n
  ·rw[Rc h1]at h;have e:i.toNat=j:=Q7 h;exact⟨by rw[seqIndex_of h0 h1,e],by omega,by omega,h1⟩
  ·rw[Re h1]at h;cases h
 ·rw [Re h0] at h;by_cases h1:-(n:Int)<=i
  ·rw[Rc h1]at h;have e:(i+n).toNat=j:=Q7 h;exact⟨by rw[seqIndex_neg 0e0 h1,e],by omega,h1,by omega⟩
  ·rw[Re h1]at h;cases h
theorem wD{Z:Type}{xs:List Z}{i:Int}{v:Z}(h:atI xs i=some v):∃j,seqIndex? i 4e2=some j/\xs[j]?=some v/\j<xs.length/\-(xs.length:Int)<=i/\i<xs.length:=by
 unfold atI at h;cases e:xj 4e2 i with
 |none=>rw[e]at h;cases h
 |some j=>
  rw[e]at h;obtain⟨h1,h2,h3,h4⟩:=wx e;exact⟨j,h1,h,h2,h3,h4⟩
theorem ll{Z:Type}{xs:List Z}{v:Z}(h:xs[j]?=some v):atI xs (j:Int)=some v:=by
 have hj:j<xs.length:=(Ry.mp h).1
 have e:xj 4e2 (j:Int)=some j:=by
  unfold xj;rw[Rc 0e0,Rc 0e0];simp
 unfold atI;rw[e];exact h
def wF(b:Expr):Prop:=∀o i,subscripted b false o i=operate [o,i] (getItem o i)
def GE(X:Cx)(r:R2):Prop:=
 ∀(value slice:Expr)(pins:List 3e6)(s:Shared)(B:St)(H:Hp)(x y:V)(v u:Value)(Q:VK),bb X pins B H s->cE x v->cE y u->r x y H Q ->
  subscripted slice false v u=operate [v,u] (getItem v u)->wpAny 1e1 X.A (subscriptTail value slice v u) 10e8 X.xe s
def QP(X:Cx)(id:String)(r:V->List V->Hp->VK->Prop):Prop:=
 ∀(pins:List 3e6)(s:Shared)(B:St)(H:Hp)(x:V)(xs:List V)(v:Value)(us:List Value)(Q:VK),bb X pins B H s->cE x v->bt xs us->r x xs H Q ->
  wpAny 1e1 X.A (call 29e4 (v::us)) 10e8 X.xe s
section
variable{X:Cx}{a b:Expr}{ta tb:TE}
theorem GE.or{r r':R2}(h:GE X r)(h':GE X r'):GE X 66e4:=by
 intro value slice pins s B H x y v u Q I rx ry q hs;rcases q with q|q
 ·exact h value slice pins s B H x y v u Q I rx ry q hs
 ·exact h' value slice pins s B H x y v u Q I rx ry q hs
theorem OU{r:R2}(hr:GE X r)(ha:PE X a ta)(hb:PE X b tb)(hs:wF b):PE X 33e0 (Pi r ta tb):=by
 intro pins s B H Q I h;exact Subscript_ (Kf ha hb I h fun v u s2 x y H2 I2 rx ry q=>hr a b pins s2 B H2 x y v u Q I2 rx ry q (hs _ _))
def NP(K:W.Frag):R2:=fun x y H Q=>∃p xs i v,x=.ref p/\y=.int i/\gW K H p xs/\atI xs i=some v/\Q v H
def NN(K:W.Frag):R2:=fun x y H Q=>∃p xs i v,x=.ref p/\y=.int i/\fS K H p xs/\atI xs i=some v/\Q v H
def NO:R2:=fun x y H Q=>∃z i c,x=.str z/\y=.int i/\z.length<=sizeLine/\atI z.cps.toList i=some c/\Q (.str ⟨#[c]⟩) H
theorem IW:GE X (NP X.K):=by
 intro value slice pins s B H x y v u Q I rx ry h hs;obtain⟨p,xs,i,z,rfl,rfl,hq,he,q⟩:=h;cases rx;obtain⟨t,rfl⟩:=ry;obtain⟨its,r,pl,hz⟩:=I.list hq;obtain⟨j,h1,h2,h3,h4,h5⟩:=wD he;obtain⟨w,ew,rw'⟩:=r.get h2;have hl:=32e3;have hn:=qi;have fin:EP X pins B Q w s:=⟨z,H,I,rw',q⟩;by_cases h0:0<=i
 ·have hj:i.toNat=j:=by
   rw[seqIndex_of h0 h5]at h1;exact Q7 h1
  exact item_listR pl.isList h0 0e0 (by rw[hj];simpa using ew) fin hs
 ·have hj:(i+(its.toArray.size:Int)).toNat=j:=by
   rw[seqIndex_neg 0e0 h4]at h1;rw[R0,<- hl];exact Q7 h1
  exact subscriptTail_builtinR (x:=w) pl.isList.typeIs SV.lookup
   (wpAny_getItem_list_neg (Q:=fun r s'=>r=w/\EP X pins B Q r s') pl.isList 0e0 (by rw[R0] <;> omega) 0e0 (by rw[hj];simpa using ew) ⟨rfl,fin⟩) hs
theorem My:GE X (NN X.K):=by
 intro value slice pins s B H x y v u Q I rx ry h hs;obtain⟨p,xs,i,z,rfl,rfl,hq,he,q⟩:=h;cases rx;obtain⟨t,rfl⟩:=ry;obtain⟨its,r,pl,hz⟩:=I.tuple hq;obtain⟨j,h1,h2,h3,h4,h5⟩:=wD he;obtain⟨w,ew,rw'⟩:=r.get h2;have hl:=32e3;have hn:=qi;have fin:EP X pins B Q w s:=⟨z,H,I,rw',q⟩
 exact subscriptTail_builtinR (x:=w) pl.typeIs slot_tuple_getitem.lookup
  (getItem_tuple (j:=j) (Q:=fun r s'=>r=w/\EP X pins B Q r s') pl 0e0 0e0 (by rw[R0,<- hl];exact h1) (by simpa using ew) ⟨rfl,fin⟩) hs
theorem Mz:GE X NO:=by
 intro value slice pins s B H x y v u Q I rx ry h hs;obtain⟨z,i,c,rfl,rfl,hz,he,q⟩:=h;obtain⟨t,rfl⟩:=rx;obtain⟨t',rfl⟩:=ry;obtain⟨j,h1,h2,h3,h4,h5⟩:=wD he;have hl:z.cps.toList.length=z.length:=by simp[Str.length]
 rw[hl]at h1 h4 h5;have hn:=qi
 exact tail_any (typeIs_str s z t) slot_str_getitem.lookup (getItem_str (c:=c) (by
  have e1:decide (i < -(2^63:Int))=false:=Q9 0e0;have e2:decide (i ≥ 2^63)=false:=Q9 0e0
  rw[e1,e2,Bool.or_false]) (by rw[h1];simpa using h2) ⟨.str ⟨#[c]⟩,H,I.tok _,⟨_,rfl⟩,q⟩) hs
def QL(K:W.Frag):R2:=fun x y H Q=>NP K x y H Q\/NN K x y H Q\/NO x y H Q
theorem MC:GE X (QL X.K):=IW.or (My.or Mz)
theorem Aq (its:List Value) (n j:Nat) (u:Value):Obj.mapSeq (·.setIfInBounds j u) {cls:=.type "list",data:=.seq 2e7 n}={cls:=.type "list",data:=.seq (its.set j u).toArray n}:=by
 simp[Obj.mapSeq]
theorem bb.lst{p:Addr}{xs:List V}(I:bb X pins B H s)(h:H p=some 3e1):
  ∃(its:List Value) (n:Nat),bt xs its/\s.heap.get? p=some {cls:=.type "list",data:=.seq 2e7 n}/\xs.length<=sizeLine:=by
 obtain⟨z,its,n,r,e⟩:=I.hok p _ h;exact⟨its,n,r,e,z⟩
theorem bb.lstUpd{p:Addr}{xs ys:List V}{its':List Value}{n':Nat}{f:Obj->Obj}(I:bb X pins B H s)(h:H p=some 3e1)(ho:s.heap.get? p=some {cls:=.type "list",data:=.seq 2e7 n})(hf:f {cls:=.type "list",data:=.seq 2e7 n}={cls:=.type "list",data:=.seq its'.toArray n'})(r:bt ys its')(hz:ys.length<=sizeLine)(t:Nat):
  bb X pins B (cQ H p 34e9) {s with heap:=s.heap.update p f,toks:=t}:=by
 have e:(s.heap.update p f).get? p=some {cls:=.type "list",data:=.seq its'.toArray n'}:=by
  rw[SW f ho (by rw[hf] <;> rfl),hf]
 refine I.write (x:=p) (e:=p) (by rw[h];trivial) 13e6 (fun b u hb q=>(Heap.get?_update_other _ _ (Rv hb)).trans q) ⟨_,e⟩ ?_;exact⟨hz,its',n',r,e⟩
def JC:V->V->V->Hp->(Hp->Prop)->Prop:=fun o i v H Q=>∃p xs k j,o=.ref p/\i=.int k/\H p=some 3e1/\xj 4e2 k=some j/\Q (cQ H p 69e5)
theorem E2:N4 X JC:=by
 intro pins s B H o i v ov iv u Q I ro ri rv h;obtain⟨p,xs,k,j,rfl,rfl,hp,hj,q⟩:=h;cases ro;obtain⟨t,rfl⟩:=ri;obtain⟨its,n,r,ho,hz⟩:=I.lst hp;obtain⟨h1,h2,h3,h4⟩:=wx hj;have hl:=32e3;have hn:=qi
 have I':bb X pins B (cQ H p 69e5) {s with heap:=s.heap.update p (Obj.mapSeq (·.setIfInBounds j u))}:=
  I.lstUpd hp ho (Aq its n j u) (r.set rv j) (by rw[SX];exact hz) 36e9
 by_cases h0:0<=k
 ·have hk:k.toNat=j:=by
   rw[seqIndex_of h0 h4]at h1;exact Q7 h1
  exact W.ki_setAt ho h0 0e0 (by rw[R0,<- hl];exact h4) (by rw[hk];exact⟨_,I',q⟩)
 ·have hk:(k+(its.toArray.size:Int)).toNat=j:=by
   rw[seqIndex_neg 0e0 h3]at h1;rw[R0,<- hl];exact Q7 h1
  exact W.ki_setBack ho 0e0 (by rw[R0,<- hl];exact h3) 0e0 (by rw[hk];exact⟨_,I',q⟩)
theorem wJ(lo hi:Option Int)(n:Nat):(sliceBounds lo hi none n).1=((HT.sIx n 0 lo:Nat):Int)/\(sliceBounds lo hi none n).2.1=((HT.sIx n n hi:Nat):Int)/\(sliceBounds lo hi none n).2.2=1:=by
 refine⟨?_,?_,rfl⟩
 ·cases lo with
  |none=>simp[sliceBounds,HT.sIx]
  |some i=>
   dsimp[sliceBounds,HT.sIx,Option.getD_none,show (1:Int)>0 by decide,SA];by_cases h:i<0
   ·dsimp[h,SA] <;> omega
   ·dsimp[h,Sy] <;> omega
 ·cases hi with
  |none=>simp[sliceBounds,HT.sIx]
  |some i=>
   dsimp[sliceBounds,HT.sIx,Option.getD_none,show (1:Int)>0 by decide,SA];by_cases h:i<0
   ·dsimp[h,SA] <;> omega
   ·dsimp[h,Sy] <;> omega
theorem ur(its:List Value)(lo hi:Option Int):slicePick 2e7 lo hi none=((its.drop (HT.sIx its.length 0 lo)).take (HT.sIx its.length its.length hi-HT.sIx its.length 0 lo)).toArray:=by
 obtain⟨h1,h2,h3⟩:=wJ lo hi its.toArray.size;unfold slicePick;rw[h1,h2,h3];dsimp[sliceRange_one,pick_run,R0] <;> rfl
def NK(K:W.Frag):V->Option Int->Option Int->Hp->VK->Prop:=fun x lo hi H Q=>∃a xs,x=.ref a/\gW K H a xs/\∀p,H p=none->Q 51e6 (cQ H p (.lst (xr xs lo hi)))
theorem Hq:GB X (NK X.K):=by
 intro pins s B H x v vl vu lo hi sl Q I rx hs pl pu h;obtain⟨a,xs,rfl,hx,q⟩:=h;cases rx;obtain⟨its,r,ht,hz⟩:=I.list hx;have hlen:=32e3;refine⟨"list",_,SV.lookup,ht.isList.typeIs,?_⟩;refine wpAny_getItem_list_slice ht.isList hs pl pu .none 0e6 ?_ (by rw[R0] <;> omega);rw[ur,<- hlen];refine⟨.ref 0e3,_,I.laid (t':=36e9) (o:=.lst (xr xs lo hi)) 27e1 7e5 ?_,rfl,q _ 18e2⟩;exact⟨Rm (rj xs lo hi) hz,_,0,(r.drop 56e8).take 21e6,RR _ rfl⟩
def ma:V->Bool
 |.non=>true
 |.bl _=>true
 |.int _=>true
 |.str _=>true
 |_=>false
def AQ:V->V->Bool
 |.non,.non=>true
 |.bl a,.bl b=>a == b
 |.bl a,.int b=>(if a then 1 else 0) == b
 |.int a,.bl b=>a == (if b then 1 else 0)
 |.int a,.int b=>a == b
 |.str a,.str b=>a == b
 |_,_=>false
theorem MX{y x:V}{v:Value}(ry:cE y u)(rx:cE x v)(fy:ma y=true)(fx:ma x=true):SeqAt.EqAt A s u v (AQ y x):=by
 cases y with
 |non=>
  cases ry;cases x with
  |non=>cases rx;exact SeqAt.EqAt.same _
  |bl b=>cases rx;exact SeqAt.EqAt.none_bool b
  |int b=>obtain⟨t,rfl⟩:=rx;exact SeqAt.EqAt.none_int b t
  |str b=>obtain⟨t,rfl⟩:=rx;exact SeqAt.EqAt.none_str b t
  |_=>exact absurd 33e7 RL
 |bl a=>
  cases ry;cases x with
  |non=>cases rx;exact SeqAt.EqAt.bool_none a
  |bl b=>cases rx;exact SeqAt.EqAt.bool_bool a b
  |int b=>obtain⟨t,rfl⟩:=rx;exact SeqAt.EqAt.bool_int a b t
  |str b=>obtain⟨t,rfl⟩:=rx;exact SeqAt.EqAt.bool_str a b t
  |_=>exact absurd 33e7 RL
 |int a=>
  obtain⟨t',rfl⟩:=ry;cases x with
  |non=>cases rx;exact SeqAt.EqAt.int_none a t'
  |bl b=>cases rx;exact SeqAt.EqAt.int_bool a t' b
  |int b=>obtain⟨t,rfl⟩:=rx;exact SeqAt.EqAt.int_int a t' b t
  |str b=>obtain⟨t,rfl⟩:=rx;exact SeqAt.EqAt.int_str a t' b t
  |_=>exact absurd 33e7 RL
 |str a=>
  obtain⟨t',rfl⟩:=ry;cases x with
  |non=>cases rx;exact SeqAt.EqAt.str_none a t'
  |bl b=>cases rx;exact SeqAt.EqAt.str_bool a t' b
  |int b=>obtain⟨t,rfl⟩:=rx;exact SeqAt.EqAt.str_int a t' b t
  |str b=>obtain⟨t,rfl⟩:=rx;exact SeqAt.EqAt.str_str a t' b t
  |_=>exact absurd 33e7 RL
 |_=>exact absurd (show false=true from fy) RL
def J1(x:V)(u:Value):Bool:=match u with
 |.none=>AQ .non x
 |.bool b=>AQ 37e0 x
 |.int i _=>AQ 15e8 x
 |.str z _=>AQ (.str z) x
 |_=>false
theorem zU{x y:V}(r:cE y u)(f:ma y=true):J1 x u=AQ y x:=by
 cases y with
 |non=>cases r;rfl
 |bl b=>cases r;rfl
 |int i=>obtain⟨t,rfl⟩:=r;rfl
 |str z=>obtain⟨t,rfl⟩:=r;rfl
 |_=>exact absurd (show false=true from f) RL
theorem sY{A:Around}{s:Shared}{x:V}{v:Value}(rx:cE x v)(fx:ma x=true):∀{xs:List V}{us:List Value},bt xs us->xs.all ma=true->∀u∈us,SeqAt.EqAt A s u v (J1 x u)
 |_,_,.nil,_=>fun u hu=>by cases hu
 |y::xs,u::us,.cons r t,f=>fun u' hu=>by
  rw[SY,SM]at f;rcases Ru.mp hu with rfl|hu
  ·rw[zU r f.1];exact MX r rx f.1 fx
  ·exact sY rx fx t f.2 u' hu
theorem du.or{f:Value}{r r':List V->Hp->VK->Prop}(h:du X f r)(h':du X f r'):du X f (fun xs H Q=>r xs H Q\/r' xs H Q):=by
 intro pins s B H xs us Q I rs q;rcases q with q|q
 ·exact h pins s B H xs us Q I rs q
 ·exact h' pins s B H xs us Q I rs q
theorem xf:du X 27e0 (fun xs H Q=>∃p ys,xs=[.ref p]/\(gW X.K H p ys\/fS X.K H p ys)/\∀l,H l=none->Q 23e8 (cQ H l 34e9)):=by
 intro pins s B H xs us Q I r h;obtain⟨p,ys,rfl,hq,q⟩:=h;obtain⟨u,rfl,rx⟩:=fj r;cases rx
 have fin:∀(its:List Value),bt ys its->ys.length<=sizeLine->∀(h':Heap)(c':Nat),(∀b o',s.heap.get? b=some o'->h'.get? b=some o') ->
   h'.get? 0e3=some {cls:=.type "list",dict:=none,data:=.seq 2e7 c',slots:=#[]}->EP X pins B Q 14e2 {s with heap:=h'}:=fun its r' hz h' c' kp e=>
  ⟨.ref 0e3,_,I.laid (t':=36e9) kp 7e5 (show eY 23e6 X.w _ h' _ 34e9 from⟨hz,its,c',r',e⟩),rfl,q _ 18e2⟩
 rcases hq with hq|hq
 ·obtain⟨its,r',pl,hz⟩:=I.list hq;have hlen:=r'.length;obtain⟨o,ho,hc,n,hd⟩:=pl.isList;exact call_list_seq p 13e6 ho hc hd 57e8 55e1
 ·obtain⟨its,r',pl,hz⟩:=I.tuple hq;have hlen:=r'.length;obtain⟨o,ho,hc,n,hd⟩:=pl;exact call_list_seq p (.inr rfl) ho hc hd 57e8 55e1
theorem uE:du X 31e6 (fun xs H Q=>∃p ys,xs=[.ref p]/\((gW X.K H p ys/\∀l,H l=none->Q 23e8 (cQ H l (.tup ys)))\/(fS X.K H p ys/\Q 51e6 H))):=by
 intro pins s B H xs us Q I r h;obtain⟨p,ys,rfl,h⟩:=h;obtain⟨u,rfl,rx⟩:=fj r;cases rx;rcases h with⟨hq,q⟩|⟨hq,q⟩
 ·obtain ⟨its, r', pl, hz⟩ := I.list hq;have hlen:=r'.length;refine call_tuple_list pl.isList (fun h' kp=>?_) 55e1;have I1:bb X pins B H {s with heap:=h'}:=I.kept (t':=36e9) kp
  have I2:bb X pins B (cQ H h'.objs.size (.tup ys)) {s with heap:=h'.push {cls:=.type "tuple",data:=.seq 2e7}}:=
   I1.laid (t':=36e9) 50e4 7e5 (show eY 23e6 X.w _ _ _ (.tup ys) from⟨hz,its,r',SU _ _⟩)
  exact⟨.ref h'.objs.size,_,I2,rfl,q _ 30e2⟩
 ·obtain⟨its,r',pl,hz⟩:=I.tuple hq;exact call_tuple_same pl ⟨.ref p,H,I,rfl,q⟩
def PB(K:W.Frag)(T:String)(x:V)(H:Hp):Prop:=match x with
 |.str _=>T = "str"
 |.int _=>T = "int"
 |.ref p=>(T = "list" /\ ∃xs,gW K H p xs)\/(T = "tuple" /\ ∃o,K.lookup p=some o/\o.cls=.type "tuple" /\ o.dict=none) \/
   (T = "dict" /\ ((∃kvs,H p=some (.dK kvs))\/∃kvs,H p=some (.dT kvs)))\/(T = "set" /\ ∃S n,H p=some (.set S n))
 |_=>False
theorem Kx{T:String}{x:V}{v:Value}(I:bb X pins B H s)(r:cE x v)(ty:PB X.K T x H):
  s.TypeIs v T/\∀a,v=.ref a->∃ob,s.heap.get? a=some ob/\ob.dict=none:=by
 cases x with
 |str z=>
  obtain⟨t,rfl⟩:=r;cases (show T = "str" from ty);exact⟨typeIs_str s z t,fun _ e=>nomatch e⟩
 |int i=>
  obtain⟨t,rfl⟩:=r;cases (show T = "int" from ty);exact⟨SZ s i t,fun _ e=>nomatch e⟩
 |ref p=>
  cases r;rcases ty with⟨rfl,xs,hq⟩|⟨rfl,o,hk,hc,hd⟩|⟨rfl,hk⟩|⟨rfl,S,n,hk⟩
  ·obtain⟨its,_,pl,_⟩:=I.list hq;refine⟨pl.isList.typeIs,fun a e=>?_⟩;cases e;obtain⟨o,n,e,c,hd,_⟩:=pl;exact⟨o,e,hd⟩
  ·refine⟨⟨o,I.kIn p o hk,hc⟩,fun a e=>?_⟩;cases e;exact⟨o,I.kIn _ o hk,hd⟩
  ·have z:∃o,s.heap.get? p=some o/\o.ExactDict:=by
    rcases hk with⟨kvs,hk⟩|⟨kvs,hk⟩
    ·obtain⟨_,_,_,_,o,_,_,e,ex,_⟩:=I.hok p _ hk;exact⟨o,e,ex⟩
    ·obtain⟨_,_,_,_,o,_,_,e,ex,_⟩:=I.hok p _ hk;exact⟨o,e,ex⟩
   obtain⟨o,e,ex⟩:=z;refine⟨⟨o,e,ex.1⟩,fun a e2=>?_⟩;cases e2;exact⟨o,e,ex.2.1⟩
  ·obtain⟨o,_,_,_,e,ex,_⟩:=I.hok p _ hk;refine⟨⟨o,e,ex.1⟩,fun a e2=>?_⟩;cases e2;exact⟨o,e,ex.2.1⟩
 |_=>exact False.elim ty
def QY(K:W.Frag)(T:String)(r:V->List V->Hp->VK->Prop)(to:TE)(t:TA):TE:=fun B H Q=>to B H fun x H1=>PB K T x H1/\t B H1 fun xs H2=>r x xs H2 Q
variable{o:Expr}{es:List Expr}{to:TE}{t:TA}{name:Str}{cpos:Pos}{T id:String}{r:V->List V->Hp->VK->Prop}
theorem OV (pa:PlainAttrs T) (slot:Slot T name id) (hty:typeOf 29e4=pure (.type "method_descriptor")) (hm:QP X id r) (ho:PE X o to) (ha:PA X (e::es) t)
  (hbase:attributeBase o name 2e1 (eval o 2e1)=eval o 2e1:=by rfl)
  (hfew : ((backTo cpos (starEach (e :: es) 2e1)).all (fun x => !x.1) && (backToKw cpos 15e9).all (fun x => x.1.isSome)
   && decide 24e7)=true:=by rfl)
  (hline:(apos.endLine == cpos.line)=true:=by rfl) (hs:starEach (e::es) 2e1=(false,eval e 2e1)::starEach es 2e1:=by rfl) (hplain:(backTo cpos 7e7).any 3e3=false:=by rfl) :
  PE X 51e7 (QY X.K T r to t):=by
 intro pins s B H Q I h;refine wpAny_Call_method_late hbase hfew hline rfl (dM (ho pins s B H _ I h) fun v s1 ⟨x,H1,I1,r1,ty,q1⟩=>?_);obtain⟨h1,h2⟩:=Kx I1 r1 ty;refine⟨T,id,pa,slot,hty,h1,h2,?_⟩;have hA:=ha cpos pins s1 B H1 _ I1 q1;rw[hs]at hA⊢;refine Calls.callWith_builtin (by show (false || (backTo cpos 7e7).any 3e3)=false;rw[hplain] <;> rfl) (Calls.evalArgs_plain ?_);exact dM hA fun us s2 ⟨vs,H2,I2,r2,q2⟩=>hm pins s2 B H2 x vs v us Q I2 r1 r2 q2
end
def Nv(X:Cx)(id:String)(r:V->List V->Hp->VK->Prop):Prop:=
 ∀(pins:List 3e6)(s:Shared)(B:St)(H:Hp)(x:V)(xs:List V)(v:Value)(us:List Value)(Q:VK),bb X pins B H s->cE x v->bt xs us->r x xs H Q ->
  wpAny 1e1 X.A (call 29e4 (v::us)) 10e8 X.xe s
theorem bt.one:∀{x:V}{us:List Value},bt [x] us->∃u,us=[u]/\cE x u
 |_,_,.cons r .nil=>⟨_,rfl,r⟩
theorem bt.eraseIdx:∀{xs:List V}{us:List Value}(i:Nat),bt xs us->bt (xs.eraseIdx i) (us.eraseIdx i)
 |_,_,_,.nil=>.nil
 |_,_,0,.cons _ t=>t
 |_,_,i+1,.cons r t=>.cons r (bt.eraseIdx i t)
theorem bt.reverse{xs:List V}(h:bt xs us):bt xs.reverse us.reverse:=by
 induction h with
 |nil=>exact .nil
 |cons r t ih=>rw[S8,S8];exact bt.append ih (.cons r .nil)
theorem bt.rep{xs:List V}{us:List Value}(h:bt xs us):∀k:Nat,bt (List.replicate k xs).flatten (List.replicate k us).flatten
 |0=>.nil
 |k+1=>by
  rw[S9,S9,Ta,Ta];exact bt.append h (bt.rep h k)
theorem qx{Z:Type}:∀(l:List Z)(i:Nat),(l.eraseIdx i).length<=l.length
 |[],_=>RT _
 |_::_,0=>Tb _
 |_::r,i+1=>Nat.succ_le_succ (qx r i)
theorem qB(its:List Value):∀(k:Nat)(acc:List Value),
  List.foldl 28e7 acc.toArray (List.replicate k 2e7)=(acc++(List.replicate k its).flatten).toArray
 |0,acc=>by simp
 |k+1,acc=>by
  have e:acc.toArray++its.toArray=(acc++its).toArray:=by simp
  have e2:(acc++its)++(List.replicate k its).flatten=acc++(List.replicate (k+1) its).flatten:=by
   rw[S9,Ta,Tc]
  rw[<- e2,<- qB its k (acc++its),<- e,S9,Td]
section
variable{X:Cx}{xs ys zs:List V}
theorem bb.lset{its':List Value}{f:Array Value->Array Value}(I:bb X pins B H s)(hH:H l=some 3e1)(e:s.heap.get? l=some {cls:=.type "list",data:=.seq 2e7 n})(hf:f 2e7=its'.toArray)(hv:bt ys its')(hz:ys.length<=sizeLine):
  bb X pins B (cQ H l 34e9) {s with heap:=s.heap.update l (Obj.mapSeq f),toks:=t'}:=by
 have q:=PySem.IsL.update e f;rw[hf]at q;refine I.write (x:=l) (e:=l) (by rw[hH];exact trivial) 13e6 (fun b' u hb hu=>(Heap.get?_update_other 3e0 (Obj.mapSeq f) (Rv hb)).trans hu) ⟨_,q⟩ ?_;exact⟨hz,its',_,hv,q⟩
theorem bb.lnew(I:bb X pins B H s)(hv:bt ys its)(hz:ys.length<=sizeLine):
  bb X pins B (cQ H 0e3 34e9) {s with heap:=s.heap.push {cls:=.type "list",data:=.seq 2e7},toks:=t'}:=
 I.laid (fun _ _ q=>RQ _ q) 7e5 ⟨hz,its,0,hv,RR _ rfl⟩
theorem bb.fresh(I:bb X pins B H s):H 0e3=none:=I.hok.fresh 7e5
theorem bb.lstM (I:bb X pins B H s) (hH:H l=some 3e1):xs.length<=sizeLine/\∃(its:List Value) (n:Nat),bt xs its/\xs.length=its.length/\s.heap.get? l=some {cls:=.type "list",data:=.seq 2e7 n}:=by
 obtain⟨z,its,n,r,e⟩:=I.hok l _ hH;exact⟨z,its,n,r,32e3,e⟩
theorem yt(h:n<=sizeLine):Builtin.List.listTooLong n=false:=by
 unfold Builtin.List.listTooLong;exact Q9 0e0
end
section
variable{X:Cx}
def Bh:V->List V->Hp->VK->Prop:=fun x vs H Q=>∃l xs y,x=.ref l/\vs=[y]/\H l=some 3e1/\xs.length<sizeLine/\Q .non (cQ H l (.lst (xs++[y])))
theorem u6:Nv X "list.append" Bh:=by
 intro pins s B H x vs v us Q I rx rv h;obtain⟨l,xs,y,rfl,rfl,hH,hz,q⟩:=h;cases rx;obtain⟨u,rfl,ru⟩:=rv.one;obtain⟨z,its,n,r,hl,e⟩:=I.lstM hH;refine Te F.slot_list_append ⟨_,e,rfl⟩ F.entry_list_append (F.args_list_append_2 _ _) (PySem.list_append l 2e7 n u 42e0) ⟨e,?_⟩;refine⟨.non,_,I.lset (its':=its++[u]) hH e 0e6 (r.append (.cons ru .nil)) ?_,rfl,q⟩;rw[Sl,Tf];omega
def Ej:V->List V->Hp->VK->Prop:=fun x vs H Q=>∃l xs i k y,x=.ref l/\vs=[.int i]/\H l=some 3e1/\-(2^63)<=i/\i<2^63/\seqIndex? i 4e2=some k/\xs[k]?=some y/\Q y (cQ H l (.lst (xs.eraseIdx k)))
theorem FS:Nv X "list.pop" Ej:=by
 intro pins s B H x vs v us Q I rx rv h;obtain⟨l,xs,i,k,y,rfl,rfl,hH,h1,h2,hk,hy,q⟩:=h;cases rx;obtain⟨u,rfl,ru⟩:=rv.one;obtain⟨t,rfl⟩:=ru;obtain⟨z,its,n,r,hl,e⟩:=I.lstM hH;obtain⟨w,hw,rw'⟩:=r.get hy
 refine Te F.slot_list_pop ⟨_,e,rfl⟩ F.entry_list_pop (F.args_list_pop_2 _ _)
  (MeetsSeq.list_pop_at l 2e7 n i t k w (fitsIndex_both h1 h2) (by rw[R0,<- hl];exact hk) (by rw[<- Tg];exact hw) 42e0) ⟨e,?_⟩
 refine⟨y,_,I.lset (its':=its.eraseIdx k) hH e ?_ (r.eraseIdx k) ?_,rw',q⟩
 ·show its.toArray.eraseIdxIfInBounds k=(its.eraseIdx k).toArray;rw[Th]
 ·have:=qx xs k;omega
def NS:R2:=fun x y H Q=>∃l b xs zs,x=.ref l/\y=.ref b/\H l=some 3e1/\H b=some (.lst zs)/\xs.length+zs.length<=sizeLine/\∀p,H p=none->Q 51e6 (cQ H p (.lst (xs++zs)))
theorem LX:jW X 40e0 NS:=by
 intro pins s B H x y v u Q I rx ry h;obtain⟨l,b,xs,zs,rfl,rfl,hH,hB,hz,q⟩:=h;cases rx;cases ry;obtain⟨z,its,n,r,hl,e⟩:=I.lstM hH;obtain⟨z2,its2,n2,r2,hl2,e2⟩:=I.lstM hB;refine PySem.P.add_list e e2 ?_ (by rw[R0,R0];omega);have ea:its.toArray++its2.toArray=(its++its2).toArray:=by simp
 rw[ea];exact⟨.ref _,_,I.lnew (t':=36e9) (r.append r2) (by rw[Sl];omega),rfl,q _ I.fresh⟩
def NM:R2:=fun x y H Q=>∃l k xs,x=.ref l/\y=.int k/\H l=some 3e1/\-(2^63)<=k/\k<2^63/\xs.length*k.toNat<=sizeLine /\
 ∀p,H p=none->Q 51e6 (cQ H p (.lst (List.replicate 31e5 xs).flatten))
theorem wt{Z:Type}(xs:List Z)(k:Nat):(List.replicate k xs).flatten.length=k*xs.length:=by
 induction k with
 |zero=>simp
 |succ k ih=>rw[S9,Ta,Sl,ih,Nat.succ_mul,Nat.add_comm]
theorem LO:jW X 60e1 NM:=by
 intro pins s B H x y v u Q I rx ry h;obtain⟨l,k,xs,rfl,rfl,hH,h1,h2,hz,q⟩:=h;cases rx;obtain⟨t,rfl⟩:=ry;obtain⟨z,its,n,r,hl,e⟩:=I.lstM hH;have hlen:its.toArray.size*k.toNat<=sizeLine:=by rw[R0,<- hl];exact hz
 have hcap:¬ its.toArray.size*k.toNat>(2^63-1) / 8:=by
  have:(sizeLine:Nat)<=(2^63-1) / 8:=by decide
  omega
 have hfit:¬ (!Builtin.List.listFitsIndex k)=true:=by
  rw[fitsIndex_both h1 h2];exact RL
 have hlong:¬ Builtin.List.listTooLong (its.toArray.size*k.toNat)=true:=by
  rw[yt hlen];exact RL
 have hnew:List.foldl 28e7 #[] (List.replicate (if its.toArray.isEmpty=true then 0 else k.toNat) 2e7)=(List.replicate 31e5 its).flatten.toArray:=by
  have f0:∀m:Nat,List.foldl 28e7 #[] (List.replicate m 2e7)=(List.replicate m its).flatten.toArray:=fun m=>by
   have:=qB its m [];rw[Ti]at this;exact this
  rw[f0];cases its with
  |nil=>simp
  |cons a r'=>rw[Re 0e6]
 refine wpAny_binaryOp_repeat_ref (T:="list") (U:="int") 0e4 ⟨_,e,rfl⟩ (fun s'=>SZ s' k t) noFill_list_mul F.fills_int_mul Tj repeat_list F.slot_int_index.lookup
  (Te Tj (SZ s k t) F.entry_int_rmul (F.args_int_rmul_2 _ _) (int___rmul___int_list k t l 2e7 n)
   ⟨e,rfl,⟨_,e,rfl⟩,Te F.slot_list_mul ⟨_,e,rfl⟩ F.entry_list_mul (F.args_list_mul_2 _ _) (AutoListH.list___mul___list_int_3 l 2e7 n k t hfit hcap hlong) ⟨e,?_⟩⟩)
 rw[hnew];exact⟨.ref _,_,I.lnew (t':=36e9) (r.rep 31e5) (by rw[wt,Nat.mul_comm];exact hz),rfl,q _ I.fresh⟩
end
end L2
namespace Att
open PySem PySem.W PySem.Calls PyProof.Rows
theorem rY{P:Params}{h:Heap}:∀(ns:List Int)(vs:List Value),WellAll P h vs (ns.map WData.int)->IntsAre vs ns:=by
 intro ns
 induction ns with
 |nil=>
  intro vs w;rw[SQ]at w;cases w;exact .nil
 |cons n ns ih=>
  intro vs w;rw[SR]at w;cases w with
  |cons a b=>
   cases a;exact .cons _ _ (ih _ b)
theorem Cd{l:OpenLaw}(hn:l.most=some n){P:Params}{h:Heap}{args:List WData}{vals:List Value}(hpre:l.row.toRowW.claim.pre args=true)(hwl:WellAll P h vals args):
  ∃a vs ns,vals=[Value.ref a]/\args=[WData.list (ns.map WData.int)]/\h.get? a=some {cls:=.type "list",data:=.seq 33e4}/\IntsAre vs ns/\ns.length<=n:=by
 have hsh:WShape.hasAll [] args [.list .int]=true:=(pre_splitW hpre).1;have hc:l.pre.holds [] {args:=args}=true:=(pre_splitW hpre).2;obtain⟨d,r,rfl,h1,h2⟩:=hasAllW_cons hsh;obtain rfl:=hasAllW_nil h2;obtain⟨xs,rfl,h3⟩:=hasW_list h1;obtain⟨ns,rfl⟩:=items_int h3
 have hlen:ns.length<=n:=by
  unfold OpenLaw.pre at hc
  have h4:(WTm.not (.lt (.lit (.int (n:Int))) (.len (.arg 0)))).holds [] {args:=[.list (ns.map .int)]}=true:=by
   have h4:=(holds_andW hc).1;rw[hn]at h4;exact h4
  have h5:=condW_of h4 (w_not (w_lt w_lit (w_len_list (w_arg rfl))));rw[Sn]at h5;refine Nat.le_of_not_lt fun q=>?_;have q':(n:Int)<((ns.length:Nat):Int):=by omega
  first
   |(rw[Tn q']at h5;exact absurd h5 0e4)
   |(simp at h5;omega)
 cases hwl with
 |cons w1 w2=>
  cases w2;cases w1 with
  |list ho hall=>exact⟨_,_,ns,rfl,rfl,ho,rY ns _ hall,hlen⟩
theorem Cj(l:OpenLaw)(args:List WData):l.row.toRowW.claim.post args 18e0 args=true:=
 postW_of (r:=l.row.toRowW) (X:=(true == true))
  (show WShape.has [] 18e0 .bool=true by first|rfl|decide|simp[WShape.has,WShape.arms,WShape.armsAll])
  (show (WTm.eq .res (.lit 18e0)).value [] {args:=args,res:=some 18e0,after:=args}=some (.bool (true == true)) from w_eq_bool (w_res rfl) w_lit) rfl
theorem attach_call{l:OpenLaw}{q:Program}{d:DefRec}(hn:l.most=some n)(hdf:d.params.defaults=[])(call : ∀ (w : World) (s₀ s₁ : Shared) (mg mb : Str -> Option Value) (fa : Addr) (o : Obj) (pm cd doc : Value) (a : Addr) (vs : List Value) (ns : List Int),
   Ground q loose [] XP w s₀ mg mb 58e7->YP w 58e7 ->
   s₁.heap.get? fa=some o->o.data=.func (docDef d.name d.params d.body d.scope pm cd doc)->s₁.heap.CodeRec cd d.name->mg d.name=some (.ref fa) ->
   s₁.heap.get? a=some {cls:=.type "list",data:=.seq 33e4}->IntsAre vs ns->ns.length<=n->s₁.gens=#[] ->
   codeAny (model 28e5 w) callerA 34e4 10e1 s₁):
  WalkO q loose XP YP l.row.toRowW d [] 49e6:=by
 intro w s₀ s₁ mg mb G μ fa o pm cd doc dV kV ho hd hcd hD hmg hg args vals as hpre hlay hrd hwl hlo;obtain rfl:dV=.none:=Dflts.none hD hdf;obtain rfl:kV=.none:=Dflts.noKw hD;obtain⟨a,vs,ns,rfl,rfl,hobj,hints,hlen⟩:=Cd hn hpre hwl;refine enter_call (R7 (call w s₀ s₁ mg mb fa o pm cd doc a vs ns G μ ho (fd_plain hd) hcd hmg hobj hints hlen hg) fun r s' hq=>?_);obtain⟨rfl,h2,h3,h4⟩:=hq;exact⟨.inl ⟨.bool true,.bool true,[],rfl,fun _=>rfl,.bool true,Cj l _,fun _=>⟨List.Pairwise.nil,fun _ hm=>(nomatch hm)⟩⟩,h2,h3,h4⟩
end Att
namespace L2
open PySem PySem.Spec PyProof.Rows
theorem uQ:∀{vs:List Value}{ns:List Int},IntsAre vs ns->bt 7e3 vs
 |_,_,.nil=>.nil
 |_,_,.cons n t h=>.cons ⟨t,rfl⟩ (uQ h)
def GN(H:Hp):Prop:=∀b,H b=none\/∃o xs,H b=some (.frz o 3e1)
theorem FX{mb:Str->Option Value}{k:Nat}{fa:Addr}{s₁:Shared}{vs:List Value}(KX:K.In 58e7)(hns:s₁.heap.Ns mainGlobals mg)(hb:s₁.heap.Ns builtinsNs mb)(hbb:∀x:Str,x ≠ "__name__" -> mb x=bootBuiltins x)(hlim:s₁.heap.NoLimit)(hg:s₁.gens=#[])(ha:s₁.heap.get? a=some {cls:=.type "list",data:=.seq 33e4})(hi:IntsAre vs ns)(hl:ns.length<=sizeLine)(hr:iw k callerA)(F:∀base:Heap,K.In base->base.Ns mainGlobals mg->sC P w K mg base CX k fa fd [x] sp)(hbind:∀(s:Shared)(u:Value),BindsTo s fd ⟨[u],[]⟩ [(x,u)])(hsp:∀H:Hp,GN H->gW K H a 7e3->sp [.ref a] H 63e4 fun _ _ _=>False)(hCX:∀H e s',CX [] H s₁ (fun _ _ _=>False) e s'->False):
  codeAny 33e5 callerA 34e4 10e1 s₁:=by
 have rv:=uQ hi;have lenV:=hi.length
 have core:∀H:Hp,GN H->gW K H a 7e3->pY P w H 58e7->(∀b,H b≠none->b=a)->(H a≠none->K.lookup a=none) ->
   codeAny 33e5 callerA 34e4 10e1 s₁:=by
  intro H hO hS hok hA hK;have base_of:∀{b:Addr}{o:Obj},s₁.heap.get? b=some o->H b=none->(vH 58e7 H).get? b=some o:=fun e n=>F4 e n
  have noA:∀{b:Addr}{o:Obj}{es:Array DictEntry}{ep:Nat},s₁.heap.get? b=some o->o.data=.dict es ep->H b=none:=fun {b o es ep} e d=>by
   cases q:H b with
   |none=>rfl
   |some u=>
    have e':b=a:=hA b (by rw[q];simp);subst e';rw[ha]at e;cases e;have d':Data.seq 33e4 _=Data.dict es ep:=d;cases d'
  have nsK:∀{b:Addr}{m:Str->Option Value},s₁.heap.Ns b m->(vH 58e7 H).Ns b m:=fun {b m} ⟨o,es,ep,e,d,r⟩=>⟨o,es,ep,base_of e (noA e d),d,r⟩
  have hKb:K.In (vH 58e7 H):=fun b o e=>base_of (KX b o e) (by
   cases q:H b with
   |none=>rfl
   |some u=>
    have e':b=a:=hA b (by rw[q];simp);subst e'
    rw[hK (by rw[q];simp)]at e;cases e)
  have hM:Mod K mg (vH 58e7 H):=⟨hKb,nsK hns,⟨mb,nsK hb,hbb⟩,let ⟨mc,h1,h2⟩:=hlim;⟨mc,nsK h1,h2⟩⟩;have e0:BO P w K mg (vH 58e7 H) callerA [] s₁ H:=⟨rfl,hM,fun b o e=>Iu e,To (CO _ _),trivial,fun b hb=>absurd (show b∈([]:List Addr) from hb) 0e6,hok,.of_eq hg⟩;refine R7 ((F _ hKb (nsK hns)).run callerA [] s₁ H ⟨[.ref a],[]⟩ [.ref a] [.ref a] _ _ hr e0 (hbind s₁ 19e0) (.cons rfl .nil) (hsp H hO hS)) fun r s' h=>?_;cases r with
  |error e=>exact(hCX H e s' h).elim
  |ok fl=>
   cases fl with
   |next=>exact False.elim h
   |brk=>exact False.elim h
   |cont=>exact False.elim h
   |ret u=>
    obtain⟨v,H',os,bare,un,hok',r',q⟩:=h;have q':v=.bl true:=q;subst q';obtain rfl:u=Value.bool true:=r';refine⟨rfl,OldK.of_keep fun b o e=>?_,os,bare⟩;cases q:H b with
    |none=>exact un.keep b o e q (by intro z;exact absurd 38e2 0e6) 0e6
    |some u=>
     rcases hO b with z|⟨ob,xs,z⟩
     ·rw[q]at z;cases z
     ·have z2:=un.frzs b ob _ z;obtain⟨e1,_⟩:=hok b _ z;obtain⟨e2,_⟩:=hok' b _ z2;rw[e]at e1;cases e1;exact e2
 cases hk:K.lookup a with
 |some o=>
  have e:=KX a o hk;rw[ha]at e;cases e;refine core 40e5 (fun _=>.inl rfl) (.inr ⟨_,33e4,_,hk,rfl,rfl,rfl,by rw[R0,lenV];exact hl,by simpa using rv⟩) (fun b u z=>by have z':(none:Option HO)=some u:=z;cases z') (fun b z=>absurd rfl z) fun z=>absurd rfl z
 |none=>
  refine core (fun b=>if b=a then some (.frz {cls:=.type "list",data:=.seq 33e4} (.lst 7e3)) else none) (fun b=>?_) (.inl (.inr ⟨{cls:=.type "list",data:=.seq 33e4},Rc rfl⟩)) (fun b u z=>?_) (fun b z=>?_) fun _=>hk
  ·by_cases hb : b = a
   ·exact .inr ⟨_,_,Rc hb⟩
   ·exact .inl (Re hb)
  ·by_cases hb : b = a
   ·have z':=(Rc hb).symm.trans z;cases z';subst hb;exact⟨ha,by rw[Sn];exact hl,vs,_,rv,ha⟩
   ·have z':=(Re hb).symm.trans z;cases z'
  ·by_cases hb : b = a
   ·exact hb
   ·exact absurd (Re hb) z
theorem walk_of{l:W.OpenLaw}{k:Nat}{q:Program}{d:DefRec}{K:Params->W.Frag}{CX:World->xk}{sp:World->Sp}(hn:l.most=some n)(hn2:n<=sizeLine)(hdf:d.params.defaults=[])(hr:iw k callerA)(hY:∀(w:World)(h:Heap),YP w h->(K 7e2).In h)(F : ∀ (w : World) (mg : Str -> Option Value) (fa : Addr) (h : Heap), (K 7e2).In h -> h.Ns mainGlobals mg -> mg d.name = some (.ref fa) ->
   ∃fd:FuncData,(∀(s:Shared)(u:Value),BindsTo s fd ⟨[u],[]⟩ [(x,u)]) /\
    ∀base:Heap,(K 7e2).In base->base.Ns mainGlobals mg->sC 28e5 w (K 7e2) mg base (CX w) k fa fd [x] (sp w))(hsp:∀(w:World)(H:Hp)(a:Addr)(ns:List Int),ns.length<=n->GN H->gW (K 7e2) H a 7e3->sp w [.ref a] H 63e4 fun _ _ _=>False)(hCX:∀(w:World)(H:Hp)(s:Shared)(e:Value)(s':Shared),CX w [] H s (fun _ _ _=>False) e s'->False):
  W.WalkO q loose XP YP l.row.toRowW d [] 49e6:=by
 refine Att.attach_call hn hdf fun w s₀ s₁ mg mb fa o pm cd doc a vs ns G μ ho hd hcd hmg hobj hints hlen hg=>?_;have KX:=hY w _ μ;obtain⟨fd,hb,hF⟩:=F w mg fa _ KX G.T.g hmg;exact FX KX G.T.g G.T.b G.T.builtins G.T.nolimit hg hobj hints (Rm hlen hn2) hr hF hb (fun H hO hS=>hsp w H a ns hlen hO hS) fun H e s'=>hCX w H s₁ e s'
abbrev zy:xk:=fun _ _ _ _ _ _=>False
abbrev E0:XK:=fun _ _ _=>False
theorem DP{X:Cx}:mh zy X E0:=fun _ _ _ _ _ _ _ h=>h.elim
structure ir(K:W.Frag)(x qual:Str)(st:Stmt)(f:Addr)(fd:FuncData):Prop where
 ex:∃(oc:Value)(od:Option Addr)(kV doc pm:Value)(an:Option Addr)(cdv ct:Value)(osl:Array 35e0),
  fd=W.fnOf x qual (fH st) (cW st) 60e3 .none kV doc pm an cdv ct/\K.lookup f=some ⟨oc,od,.func fd,osl⟩/\W.codeIn K cdv qual=true
 kp:W.keepIn K 4e6=true
section
theorem ir.ok{ps:List Str}{k:Nat}(F:ir K x qual st f fd)(S:aX N ps 60e3)(len:∀vs H Q E,sp vs H Q E->vs.length=29e2)(hbody : ∀ (cdv : Value) (A : Around) (outer : List Env) (s : Shared) (H : Hp) (vs : List V) (Q : VK) (E : XK), iw k 7e0 -> sp vs H Q E ->
   ∃t,kn (sy zy P w K mg base N qual 60e3 f cdv A outer s H E).nox (cW st) t/\t {nx:=fun _ H'=>Q .non H',rt:=Q} (start N vs) H):sC P w K mg base zy (k+1) f fd ps sp:=by
 obtain⟨oc,od,kV,doc,pm,an,cdv,ct,osl,rfl,lk,hcd⟩:=F.ex;refine JU lk hcd S len fun A outer s H vs Q E hr hsp=>?_;obtain⟨t,h,q⟩:=hbody cdv A outer s H vs Q E hr hsp;exact⟨t,h.nox,q⟩
theorem ir.binds{ps:List Str}(F:ir K x qual st f fd)(h:∀(kV doc pm:Value)(an:Option Addr)(cdv ct:Value)(us:List Value),us.length=ps.length->bindArgs 2e2 ⟨us,[]⟩=pure 30e3):iZ K fd ps []:=by
 obtain⟨oc,od,kV,doc,pm,an,cdv,ct,osl,rfl,lk,hcd⟩:=F.ex;exact .all (h kV doc pm an cdv ct)
theorem MP{oc:Value}{od:Option Addr}{kV doc pm ct:Value}(l:K.lookup f=some ⟨oc,od,.func 2e2,osl⟩)(c:W.codeIn K cdv qual=true)(k:W.keepIn K 4e6=true):ir K x qual st f 2e2:=⟨⟨oc,od,kV,doc,pm,an,cdv,ct,osl,rfl,l,c⟩,k⟩
end
theorem NY{A σ:Prop}(h:σ):if false=true then A else σ:=by
 rw[Re RL];exact h
theorem NX{A σ:Prop}(h:A):if true=true then A else σ:=by
 rw[Rc rfl];exact h
theorem gB{x:Str}:∀{names:List 31e7}{k:NameKind},names.lookup x=some k->(x,k)∈names
 |[],_,h=>by simp at h
 |(n,j)::r,k,h=>by
  rw[Tp]at h;cases hx:x == n with
  |true=>
   rw[hx]at h;have e:x=n:=eq_of_beq hx;cases h;rw[e];exact Rq
  |false=>rw[hx]at h;exact Rt _ (gB h)
theorem jT{env:Env}{x:Str}:∀{names:List 31e7},
  (names.map fun (n, k) => if (k == NameKind.free && env.scope.kind == .function && env.kindOf n == some .cell) then (n, NameKind.cell) else (n, k)).lookup x =
   (names.lookup x).map fun k=>if (k == NameKind.free&&env.scope.kind == .function&&env.kindOf x == some .cell) then NameKind.cell else k
 |[]=>rfl
 |(n,k)::r=>by
  have ih:=jT (env:=env) (x:=x) (names:=r);rw[SR];show List.lookup x ((if (k == NameKind.free&&env.scope.kind == .function&&env.kindOf n == some .cell)=true then (n,NameKind.cell) else (n,k))::_)=_;cases hx:x == n with
  |true=>
   have e:x=n:=eq_of_beq hx;subst e;by_cases hc:(k == NameKind.free&&env.scope.kind == .function&&env.kindOf x == some .cell)=true
   ·rw[Rc hc,Tp,hx,Tp,hx];show some NameKind.cell=some 27e2;rw[Rc hc]
   ·rw[Re hc,Tp,hx,Tp,hx];show some k=some 27e2;rw[Re hc]
  |false=>
   by_cases hc:(k == NameKind.free&&env.scope.kind == .function&&env.kindOf n == some .cell)=true
   ·rw[Rc hc,Tp,hx,Tp,hx];exact ih
   ·rw[Re hc,Tp,hx,Tp,hx];exact ih
theorem ot{env:Env}{f:Str×NameKind->List 30e4->Sem (ForInStep (List 30e4))}
  (h1:∀n c acc,env.cells.lookup n=some c->f (n,.free) acc=pure (.yield ((n,c)::acc))) (h2:∀n k acc,k≠.free->f (n,k) acc=pure (.yield acc)) :
  ∀(names:List 31e7)(acc:List 30e4),(∀y∈names,y.2=.free->∃c,env.cells.lookup y.1=some c)->(∀x c,acc.lookup x=some c->env.cells.lookup x=some c) ->
   ∃cl,forIn names acc f=(pure cl:Sem (List 30e4))/\(∀x c,cl.lookup x=some c->env.cells.lookup x=some c)/\(∀x,(acc.lookup x).isSome=true->(cl.lookup x).isSome=true)/\(∀y∈names,y.2=.free->(cl.lookup y.1).isSome=true)
 |[],acc,_,ha=>⟨acc,rfl,ha,fun _ h=>h,fun y hy=>by simp at hy⟩
 |(n,k)::r,acc,hn,ha=>by
  by_cases hk:k=.free
  ·subst hk;obtain⟨c,hc⟩:=hn (n,.free) Rq rfl
   obtain⟨cl,e1,e2,e3,e4⟩:=ot h1 h2 r ((n,c)::acc) (fun y hy=>hn y (Rt _ hy)) (fun x d h=>by
    rw[Tp]at h;cases hx:x == n with
    |true=>rw[hx]at h;cases h;rw[eq_of_beq hx];exact hc
    |false=>rw[hx]at h;exact ha x d h)
   refine⟨cl,?_,e2,fun x h=>e3 x ?_,fun y hy hf=>?_⟩
   ·rw[List.forIn_cons,h1 n c acc hc];exact e1
   ·rw[Tp];cases hx:x == n <;> simp[h]
   ·rcases Ru.mp hy with z | z
    ·subst z;exact e3 n (by simp[Tp])
    ·exact e4 y z hf
  ·obtain ⟨cl, e1, e2, e3, e4⟩ := ot h1 h2 r acc (fun y hy => hn y (Rt _ hy)) ha;refine⟨cl,?_,e2,e3,fun y hy hf=>?_⟩
   ·rw[List.forIn_cons,h2 n k acc hk];exact e1
   ·rcases Ru.mp hy with z | z
    ·subst z;exact absurd hf hk
    ·exact e4 y z hf
theorem zl{n:Str}{c:Addr}(h:env.cells.lookup n=some c):cellOf env n=pure c:=by
 unfold cellOf;rw[h]
def AZ(env:Env)(x:Str×NameKind)(r:List 30e4):Sem (ForInStep (List 30e4)):=
 match x with|(name,kind)=>if kind == .free then do let c <- cellOf env name;pure (.yield ((name,c)::r)) else pure (.yield r)
theorem AE(hn:∀y∈scope.names,y.2=.free->∃c,env.cells.lookup y.1=some c):
  ∃cl,closureFor scope env=pure cl/\(∀x c,cl.lookup x=some c->env.cells.lookup x=some c)/\(∀y∈scope.names,y.2=.free->(cl.lookup y.1).isSome=true):=by
 obtain⟨cl,e1,e2,_,e4⟩:=ot (env:=env) (f:=AZ env)
  (fun n c acc h=>by unfold AZ;dsimp[Tq,SA];rw[zl h];rfl)
  (fun n k acc h => by
   unfold AZ;have:(k == NameKind.free)=false:=by simpa using h
   dsimp[this,Tr,Sy]) 18e5 [] hn (fun x c h=>by simp at h)
 refine⟨cl,?_,e2,e4⟩;show (forIn 18e5 [] (AZ env) >>= fun s=>pure s)=pure cl;rw[e1];rfl
def jE(X:Cx)(Nc:List Str)(scope:Scope)(cl:List 30e4)(C:Addr)(s:Shared)(H:Hp)(fp:List Addr):Cx where
 prog:=23e6
 w:=X.w
 K:=X.K
 mg:=X.mg
 base:=62e1
 A:=X.A
 N:=Nc
 s₀:=s
 H₀:=H
 env:=compEnvC scope (cellsFrom (C+1) 18e5 cl) C 2e1
 outer:=59e8
 stack:=59e8
 ex:=fp
 fn:=fun x=>scope.names.lookup x == some .cell
 calm:=X.calm
 pn:=[]
 xe:=fun _ _=>False
def sI(cap:List 5e0)(B:St):St:=cap.map fun o=>o.bind fun j=>(B[j]?).join
def iy(N:List Str)(env:Env)(scope:Scope):List Str->List 5e0->Bool
 |[],[]=>true
 |_::Nc,none::cap=>iy N env scope Nc cap
 |x::Nc,some j::cap=>(N[j]? == some x)&&(scope.names.lookup x == some .free)&&iy N env scope Nc cap
 |_,_=>false
theorem qG{N:List Str}{env:Env}{scope:Scope}:∀{Nc:List Str}{cap:List 5e0},iy N env scope Nc cap=true->cap.length=Nc.length
 |[],[],_=>rfl
 |[],_::_,h=>by simp[iy]at h
 |_::_,[],h=>by simp[iy]at h
 |_::Nc,none::cap,h=>by rw[Ts,Ts,qG (Nc:=Nc) (cap:=cap) h]
 |x::Nc,some j::cap,h=>by
  have h':iy N env scope Nc cap=true:=by unfold iy at h;dsimp[SM]at h;exact h.2
  rw[Ts,Ts,qG h']
theorem tm{N:List Str}{env:Env}{scope:Scope}:∀{Nc:List Str}{cap:List 5e0}{i j:Nat}{x:Str},iy N env scope Nc cap=true->cap[i]?=some (some j)->Nc[i]?=some x->N[j]?=some x/\scope.names.lookup x=some .free
 |[],_,_,_,_,_,_,e=>by simp at e
 |_::_,[],_,_,_,h,_,_=>by simp[iy]at h
 |y::Nc,none::cap,0,j,x,h,e,_=>by simp at e
 |y::Nc,some k::cap,0,j,x,h,e,e2=>by
  simp at e e2;subst e;subst e2;unfold iy at h;dsimp[SM]at h;exact⟨eq_of_beq h.1.1,eq_of_beq h.1.2⟩
 |y::Nc,none::cap,i+1,j,x,h,e,e2=>tm (Nc:=Nc) (cap:=cap) (i:=i) h 30e1 69e6
 |y::Nc,some k::cap,i+1,j,x,h,e,e2=>by
  have h':iy N env scope Nc cap=true:=by unfold iy at h;dsimp[SM]at h;exact h.2
  exact tm (Nc:=Nc) (cap:=cap) (i:=i) h' 30e1 69e6
structure cg(N:List Str)(env:Env)(scope:Scope)(Nc:List Str)(cap:List 5e0):Prop where
 kind:scope.kind=.function
 nd:∀y∈scope.names,scope.names.lookup y.1=some y.2
 free:∀y∈scope.names,y.2=.free->env.kindOf y.1=some .cell\/env.kindOf y.1=some .free
 cap:iy N env scope Nc cap=true
theorem nh{n0:Nat}{x:Str}{c:Addr}:∀{names:List 31e7}{cl:List 30e4}{n:Nat},n0<=n->((x,NameKind.cell)∈names\/∃c',cl.lookup x=some c'/\n0<=c')->(cellsFrom n names cl).lookup x=some c->n0<=c
 |[],cl,n,_,h,e=>by
  rcases h with z|⟨c',z1,z2⟩
  ·simp at z
  ·have e':cl.lookup x=some c:=e;rw[z1]at e';cases e';exact z2
 |(y,k)::r,cl,n,hn,h,e=>by
  unfold cellsFrom at e;split at e
  ·rename_i hk;refine nh (n:=n+1) 0e0 ?_ e;cases hx:x == y with
   |true=>exact .inr ⟨n,by rw[Tp,hx],hn⟩
   |false=>
    rcases h with z|⟨c',z1,z2⟩
    ·rcases Ru.mp z with q | q
     ·have:x=y:=RF Prod.fst q;rw[this]at hx;simp at hx
     ·exact .inl q
    ·exact .inr ⟨c',by rw[Tp,hx];exact z1,z2⟩
  ·rename_i hk;refine nh hn ?_ e;rcases h with z|z
   ·rcases Ru.mp z with q | q
    ·have:k=.cell:=(RF Prod.snd q).symm;exact absurd (by rw[this];rfl) hk
    ·exact .inl q
   ·exact .inr z
theorem kO{x:Str}:∀{names:List 31e7}{cl:List 30e4}{n:Nat},(x,NameKind.cell)∉names->(cellsFrom n names cl).lookup x=cl.lookup x
 |[],cl,n,_=>rfl
 |(y,k)::r,cl,n,hn=>by
  unfold cellsFrom;have hr:(x,NameKind.cell)∉r:=fun z=>hn (Rt _ z);split
  ·rename_i hk;rw[kO hr,Tp];cases hx:x == y with
   |true=>exact absurd (by rw[eq_of_beq hx,(eq_of_beq hk:k=.cell)];exact Rq) hn
   |false=>rfl
  ·exact kO hr
theorem qF{n0:Nat}:∀{names:List 31e7}{cl:List 30e4}{n:Nat},n0<=n->(∀x y c,cl.lookup x=some c->cl.lookup y=some c->n0<=c->x=y)->(∀x c,cl.lookup x=some c->c<n) ->
  ∀x y c,(cellsFrom n names cl).lookup x=some c->(cellsFrom n names cl).lookup y=some c->n0<=c->x=y
 |[],cl,n,_,h,_=>h
 |(z,k)::r,cl,n,hn,h,hb=>by
  unfold cellsFrom;split
  ·refine qF (n := n + 1) 0e0 (fun x y c e1 e2 hc => ?_) (fun x c e => ?_)
   ·rw [Tp] at e1 e2;cases hx:x == z with
    |true=>
     cases hy:y == z with
     |true=>rw[eq_of_beq hx,eq_of_beq hy]
     |false=>
      rw[hx]at e1;rw[hy]at e2;cases e1;exact absurd (hb y _ e2) (Rh _)
    |false=>
     cases hy:y == z with
     |true=>
      rw[hx]at e1;rw[hy]at e2;cases e2;exact absurd (hb x _ e1) (Rh _)
     |false=>rw[hx]at e1;rw[hy]at e2;exact h x y c e1 e2 hc
   ·rw [Tp] at e;cases hx:x == z with
    |true=>rw[hx]at e;cases e;exact Tt _
    |false=>rw[hx]at e;exact Tu (hb x c e)
  ·exact qF hn h hb
theorem mF{x:Str}{c:Addr}:∀{names:List 31e7}{cl:List 30e4}{h:Heap},(cellsFrom h.objs.size names cl).lookup x=some c->cl.lookup x=some c\/(pushCells h names).IsCell c none
 |[],cl,h,e=>.inl e
 |(y,k)::r,cl,h,e=>by
  unfold cellsFrom at e;unfold pushCells;split at e
  ·rename_i hk;rw[Rc hk];have e':(cellsFrom (h.push {cls:=.type "cell",data:=.cell none}).objs.size r ((y,h.objs.size)::cl)).lookup x=some c:=by rw[Tv];exact e
   rcases mF e' with q|q
   ·rw [Tp] at q;cases hx:x == y with
    |true=>
     rw[hx]at q;cases q;exact .inr ⟨_,Tw _ _ _ _ 60e4,rfl⟩
    |false=>rw[hx]at q;exact .inl q
   ·exact .inr q
  ·rename_i hk;rw[Re hk];exact mF e
theorem CN{X:Cx}{cap:List 5e0}(I:bb X pins B H s)(hf:∀b∈fp,oK X pins H b)(hfs:∀b∈fp,b<s.heap.objs.size)(S:cg X.N 2e1 scope Nc cap)(hcl:∀x c,cl.lookup x=some c->X.env.cells.lookup x=some c)(hall:∀y∈scope.names,y.2=.free->(cl.lookup y.1).isSome=true)(hn:h'.Ns 0e3 40e5)(hk:∀b o,s.heap.get? b=some o->h'.get? b=some o)(hce:∀x c,(cellsFrom 8e6 18e5 cl).lookup x=some c->cl.lookup x=some c\/h'.IsCell c none):
  bb (jE X Nc scope cl 0e3 s H fp) [] (sI cap B) H {s with heap:=h',toks:=t'}:=by
 have hrl:∀x,(jE X Nc scope cl 0e3 s H fp).env.kindOf x=(scope.names.lookup x).map fun k=>if (k == NameKind.free&&X.env.scope.kind == .function&&X.env.kindOf x == some .cell) then NameKind.cell else k:=fun x=>jT
 have hcf:∀x,((jE X Nc scope cl 0e3 s H fp).env.kindOf x=some .cell\/(jE X Nc scope cl 0e3 s H fp).env.kindOf x=some .free)->scope.names.lookup x=some .free\/scope.names.lookup x=some .cell:=fun x hx=>by
  rw[hrl]at hx;cases e:scope.names.lookup x with
  |none=>rw[e]at hx;rcases hx with z|z <;> cases z
  |some k=>
   rw[e]at hx;by_cases hkf:k=.free
   ·rw[hkf];exact .inl rfl
   ·have : (k == NameKind.free) = false := by simpa using hkf
    dsimp[this,RP,Option.map_some]at hx;rcases hx with z|z
    ·have z' : k = .cell := by simpa using z
     rw[z'];exact .inr rfl
    ·have z' : k = .free := by simpa using z
     exact absurd z' hkf
 have hclx:∀x,scope.names.lookup x=some .free->∃c,cl.lookup x=some c:=fun x e=>Sb.mp (hall (x,.free) (gB e) rfl)
 have hcb:∀x c,cl.lookup x=some c->c<s.heap.objs.size:=fun x c e=>by
  obtain⟨v,q⟩:=I.cell x c (hcl x c e);exact q.lt
 have hcell:∀x c,(cellsFrom 8e6 18e5 cl).lookup x=some c->(cl.lookup x=some c/\c<s.heap.objs.size)\/(s.heap.objs.size+1<=c/\h'.IsCell c none):=fun x c e=>by
  by_cases hm:(x,NameKind.cell)∈scope.names
  ·have h1 := nh 7e5 (.inl hm) e;rcases hce x c e with z|z
   ·have:=hcb x c z;exact absurd (Rg (Tu this) h1) (Rh _)
   ·exact .inr ⟨h1,z⟩
  ·rw[kO hm]at e;exact .inl ⟨e,hcb x c e⟩
 have hinj:∀x y c,(cellsFrom 8e6 18e5 cl).lookup x=some c->(cellsFrom 8e6 18e5 cl).lookup y=some c->x=y:=fun x y c e1 e2=>by
  rcases hcell x c e1 with⟨a1,a2⟩|⟨a1,a2⟩
  ·rcases hcell y c e2 with ⟨b1, b2⟩ | ⟨b1, b2⟩
   ·exact I.ok.inj x y c (hcl x c a1) (hcl y c b1)
   ·exact absurd (Rg (Tu a2) b1) (Rh _)
  ·exact qF 7e5 (fun x y c q _ hc=>absurd (Rg (Tu (hcb x c q)) hc) (Rh _)) (fun x c q=>Tu (hcb x c q)) x y c e1 e2 a1
 refine⟨⟨I.ok.mod,S.kind,I.ok.glob,I.ok.blt,RT _,fun x y c e1 e2=>hinj x y c e1 e2,fun x hx=>?_,fun x c e e2=>?_,I.ok.hd,I.ok.frames,.inl rfl,
  fun b hb=>⟨Ri (hfs b hb),fun x c e=>?_⟩,I.bs,Rm I.ok.bsz I.sz,fun b o e hb=>?_,fun b hb z=>?_,I.stack,I.stkFree⟩,
  rfl,I.bare,Un.kept hk,⟨_,hn,fun i x v e1 e2 e3=>?_⟩,fun x c e=>?_,I.hok.fresh 7e5,fun x c e=>?_,fun p hp=>absurd 25e4 0e6,I.hok.kept hk,?_⟩
 ·rcases hcf x hx with q | q
  ·by_cases hm : (x, NameKind.cell) ∈ scope.names
   ·rcases Sb.mp (W.cellsFrom_some 18e5 60e5 cl (.inl (S.nd (x, .cell) hm))) with ⟨c, e⟩
    exact⟨c,e⟩
   ·obtain⟨c,e⟩:=hclx x q;exact⟨c,(kO hm).trans e⟩
  ·obtain⟨c,e⟩:=Sb.mp (W.cellsFrom_some 18e5 8e6 cl (.inl q));exact⟨c,e⟩
 ·have hm:(x,NameKind.cell)∈scope.names:=gB (eq_of_beq (show (scope.names.lookup x == some .cell)=true from e));exact Nat.le_of_succ_le (nh 7e5 (.inl hm) e2)
 ·rcases hcell x c e with ⟨a1, a2⟩ | ⟨a1, a2⟩
  ·exact(hf b hb).2.2.2.2.1 x c (hcl x c a1)
  ·exact fun z=>absurd (Rg (Tu (hfs b hb)) (by rw[<- z];exact a1)) (Rh _)
 ·rcases (hf b hb).2.2.2.1 with z | z
  ·exact I.ok.noex b o e z
  ·exact absurd (Rg (Rg 73e5 I.ok.bsz) z) (Rh _)
 ·rcases Ru.mp (I.stkSub b z) with q | q
  ·exact(hf b hb).2.1 q
  ·exact(hf b hb).2.2.1 q
 ·have e2':∃j,cap[i]?=some (some j)/\B[j]?=some (some v):=by
   unfold sI at e2;rw[Si]at e2;cases hc:cap[i]? with
   |none=>rw[hc]at e2;cases e2
   |some o=>
    rw[hc]at e2;cases o with
    |none=>cases e2
    |some j=>
     refine⟨j,rfl,?_⟩;dsimp[Option.map_some,Tx]at e2;cases hj:B[j]? with
     |none=>rw[hj]at e2;cases e2
     |some q=>
      rw[hj]at e2;dsimp[Option.join_some]at e2;rw[Q7 e2]
  obtain⟨j,hj,hv⟩:=e2';obtain⟨hN,hx⟩:=tm S.cap hj e1;have hkx:=S.free (x,.free) (gB hx) rfl;obtain⟨m,hm,hl⟩:=I.loc;obtain⟨u,r,l⟩:=hl j x v hN hv (hkx.elim (fun z=>.inr (.inl z)) (fun z=>.inr (.inr z)));refine⟨u,r,.inr ⟨?_,?_⟩⟩
  ·rw [hrl, hx];show some 27e2=_\/some 27e2=_;by_cases hc:(NameKind.free == NameKind.free&&X.env.scope.kind == .function&&X.env.kindOf x == some .cell)=true
   ·rw[Rc hc];exact .inl rfl
   ·rw[Re hc];exact .inr rfl
  ·obtain ⟨c, ec⟩ := hclx x hx
   have hm:(x,NameKind.cell)∉scope.names:=fun z=>by
    have:=S.nd (x,.cell) z;rw[hx]at this;cases this
   refine⟨c,(kO hm).trans ec,?_⟩;rcases l with⟨k,_⟩|⟨k,c',ec',z⟩
   ·rcases hkx with q|q <;> (rw[k]at q;cases q)
   ·have q:=hcl x c ec;rw[ec']at q;cases q;obtain⟨o,ho,hd⟩:=z;exact⟨o,hk _ o ho,hd⟩
 ·rcases hcell x c e with ⟨a1, a2⟩ | ⟨a1, a2⟩
  ·obtain⟨v,o,ho,hd⟩:=I.cell x c (hcl x c a1);exact⟨v,o,hk _ o ho,hd⟩
  ·exact⟨none,a2⟩
 ·rcases hcell x c e with ⟨a1, a2⟩ | ⟨a1, a2⟩
  ·exact I.freeC x c (hcl x c a1)
  ·exact I.hok.fresh (Nat.le_of_succ_le a1)
 ·show (cap.map _).length=Nc.length;rw[Sn,qG S.cap]
abbrev vC:Value->Shared->Prop:=fun _ _=>False
def wb(ifs:List Expr)(env:Env):Sem Bool:=forIn ifs true fun c r=>if r=true then do let ok <- isTrue c env (eval c env);pure (ForInStep.yield ok) else pure (ForInStep.yield r)
def sv(X:Cx)(ifs:List Expr)(t:TT):Prop:=
 ∀(pins:List 3e6)(s:Shared)(B:St)(H:Hp)(Q:Bool->Hp->Prop),bb X pins B H s->t B H Q->wpAny 1e1 X.A (wb ifs 2e1) 64e6 X.xe s
def Oo:TT:=fun _ H Q=>Q true H
theorem HJ{X:Cx}:sv X [] Oo:=fun _ _ _ H _ I h=>RN ⟨H,I,h⟩
theorem HI{X:Cx}{t:TT}(h:PT X c t):sv X [c] t:=fun pins s B H Q I q=>wpAny_tests_one (h pins s B H Q I q)
def MZ(e:Expr)(acc:Value)(env:Env):Sem Unit:=match e with
 |.ListComp elt _ _ _=>do let _ <- call (.builtin "list.append") [acc,<- eval elt env]
 |.SetComp elt _ _ _=>do let v <- eval elt env;standAt elt.pos;let _ <- call (.builtin "set.add") [acc,v]
 |_=>unsupported "internal:not-a-comprehension"
def n6:Expr->Bool
 |.ListComp ..=>true
 |.SetComp ..=>true
 |_=>false
def nI(M:Model)(A:Around)(e:Expr)(k:Nat)(acc:Value)(env:Env)(C:Shared->Prop)(E:Value->Shared->Prop)(s:Shared):Prop:=match (clausesOf e)[k]? with
 |some g=>wpAny M A (eval g.iter env) (fun x s1=>wpAny M A (foldedSetIterable g.iter env x) (fun x s2=>wpAny M A (pyIter x) (fun it s3=>
   codeAny M A (.compStart e k it acc env) (fun r s4=>(∃f,r=.ok f)/\C s4) s3) E s2) E s1) E s
 |none=>wpAny M A (MZ e acc env) (fun _ s1=>C s1) E s
theorem yT{M:Model}{k:Nat}{acc:Value}{C C':Shared->Prop}(hC:∀s,C s->C' s)(h:nI M A e k acc env C vC s):nI M A e k acc env C' E s:=by
 unfold nI at h⊢;split at h
 ·exact RC h (fun _ _ h=>RC h (fun _ _ h=>RC h (fun _ _ h=>R7 h fun _ _ h=>⟨h.1,hC _ h.2⟩) fun _ _ z=>z.elim) fun _ _ z=>z.elim) fun _ _ z=>z.elim
 ·exact RC h (fun _ _ h=>hC _ h) fun _ _ z=>z.elim
theorem GX{M:Model}{d:Nat}{it acc:Value}{Q:Fin->Shared->Prop}(he:n6 e=true)(hz:∀g∈clausesOf e,g.is_async=0)(hg:(clausesOf e)[d]?=some g)(h : wpAny M A (pyNext it) (fun r s₁ => match r with
   |none=>Q (.done .next) s₁
   |some v=>wpAny M A (letOwnedTupleGo g.target it v) (fun _ s₁'=>wpAny M A (assign g.target env v) (fun _ s₂=>wpAny M A (wb g.ifs env) (fun ok s₃=>
     if ok=true then nI M A e (d+1) acc env (fun s₄=>wpAny M A (again 51e8) Q E s₄) E s₃ else wpAny M A (again 51e8) Q E s₃) E s₂) E s₁') E s₁) E s):
  wpAny M A (compTurn e d it acc env) Q E s:=by
 have h0:=hz g (Sk hg);have h1:∀g',(clausesOf e)[d+1]?=some g'->g'.is_async=0:=fun g' h=>hz g' (Sk h);unfold compTurn
 cases e <;> first
  |exact absurd 33e8 RL
  | (rename_i elt gens sc pos
     have hg':gens[d]?=some g:=hg;have h1':∀g',gens[d+1]?=some g'->g'.is_async=0:=h1;dsimp only;rw[hg'];dsimp only;rw[h0];refine RH (RJ ?_);show wpAny M A (pyNext it >>= _) Q E s;refine RH (RC h (fun r s₁ h₁=>?_) fun _ _ z=>z);cases r with
     |none=>exact RN h₁
     |some v=>
      refine RH (RC h₁ (fun _ s₁' h₁'=>?_) fun _ _ z=>z);refine RH (RC h₁' (fun _ s₂ h₂=>?_) fun _ _ z=>z);refine RH (RC h₂ (fun ok s₃ h₃=>?_) fun _ _ z=>z);cases ok with
      |false=>exact h₃
      |true=>
       dsimp[SA]at h₃⊢;unfold nI at h₃;dsimp only[clausesOf]at h₃;cases e2:gens[d+1]? with
       |none=>
        rw[e2]at h₃;exact RH h₃
       |some g'=>
        rw[e2]at h₃;have e3:=h1' g' e2;dsimp[e3];refine RH (RC h₃ (fun x s₄ h₄=>?_) fun _ _ z=>z);refine RH (RJ ?_);show wpAny M A (foldedSetIterable g'.iter env x >>= _) Q E s₄;refine RH (RC h₄ (fun x s₅ h₅=>?_) fun _ _ z=>z);refine RH (RI ?_);show wpAny M A (pyIter x) _ E s₅;refine RC h₅ (fun it' s₆ h₆=>?_) fun _ _ z=>z;refine RH (wpAny_runOwn (R7 h₆ fun r s₇ h₇=>?_));obtain⟨⟨f,rfl⟩,hc⟩:=h₇
        exact hc)
section
variable{R:Result->Shared->Prop}
theorem uS{k:Nat}{it acc:Value}(he:n6 e=true)(hz:∀g∈clausesOf e,g.is_async=0)(hg:(clausesOf e)[k]?=some g)(h0:codeAny 1e2 A (.compLoop e k it acc env) R s)(h:wpAny 1e2 A (pyIter it) (fun it' s'=>codeAny 1e2 A (.compLoop e k it' acc env) R s') vC s):
  codeAny 1e2 A (.compStart e k it acc env) R s:=by
 have ha:=hz g (Sk hg)
 cases e <;> first
  |exact absurd 33e8 RL
  | (refine TB ?_
     show wpAny _ _ ((compStart _ k it acc env).onRaise (fun x=>do noteFrame x env;standAt theWindowsPlace)) _ _ s;refine wpAny_notedAt ?_;unfold compStart;rw[hg];have e1:((some g).elim false fun x=>x.is_async != 0)=false:=by show (g.is_async != 0)=false;rw[ha];rfl
     rw[e1];dsimp[Tr,Sy];refine RH (TC (wpAny_ite ?_));split
     ·exact RN (And.intro rfl h0)
     ·refine RH (TF ?_);refine RH (RJ ?_)
      exact RH (RC h (fun it' s' h'=>RN (And.intro rfl h')) fun _ _ z=>z.elim))
theorem CG{d:Nat}{it acc:Value}(he:n6 e=true)(hz:∀g∈clausesOf e,g.is_async=0)(hg:(clausesOf e)[d]?=some g)(I:Nat->Shared->Prop)(turn : ∀ n s, I n s -> wpAny 1e2 A (pyNext it) (fun r s₁ => match r with
   |none=>R (.ok .next) s₁
   |some v=>wpAny 1e2 A (letOwnedTupleGo g.target it v) (fun _ s₁'=>wpAny 1e2 A (assign g.target env v) (fun _ s₂=>
     wpAny 1e2 A (wb g.ifs env) (fun ok s₃=>
      if ok=true then nI 1e2 A e (d+1) acc env (fun s₅=>∃m,m<n/\I m s₅) vC s₃
      else ∃m,m<n/\I m s₃) vC s₂) vC s₁') vC s₁) vC s)(n:Nat)(h:I n s):codeAny 1e2 A 51e8 R s:=by
 refine codeAny_loop (by cases e <;> first|exact absurd 33e8 RL|rfl) I (fun n s hI=>?_) n h
 cases e <;> first
  |exact absurd 33e8 RL
  | (show wpAny _ A ((compTurn _ d it acc env).onRaise (fun x => do noteFrame x env; theTreesLotGoes x)) _ _ s
     refine wpAny_noted (GX he hz hg (RC (turn n s hI) (fun r s₁ h₁=>?_) fun _ _ z=>z.elim));cases r with
     |none=>exact h₁
     |some v=>
      refine RC h₁ (fun _ s₂ h₂=>RC h₂ (fun _ s₃ h₃=>RC h₃ (fun ok s₄ h₄=>?_) fun _ _ z=>z.elim) fun _ _ z=>z.elim) fun _ _ z=>z.elim;cases ok with
      |false=>exact RN ⟨rfl,h₄⟩
      |true=>
       dsimp[SA]at h₄⊢
       exact yT (fun s₅ h₅=>RN ⟨rfl,h₅⟩) h₄)
end
abbrev Dm:=St->Hp->(St->Hp->Prop)->Prop
def vB(X:Cx)(e:Expr)(k:Nat)(acc:Addr)(t:Dm):Prop:=
 ∀(pins:List 3e6)(s:Shared)(B:St)(H:Hp)(N:St->Hp->Prop),bb X pins B H s->t B H N->nI 1e1 X.A e k 40e6 2e1 (fun s'=>∃B' H',bb X pins B' H' s'/\N B' H') vC s
def Pj(J:It)(g:TG)(tt:TT)(tb:Dm)(N:St->Hp->Prop)(B:St)(H:Hp):Prop:=∃W:Nat->Nat->St->Hp->Prop,(∃m,W 0 m B H)/\∀i m B1 H,W i m B1 H ->
 (J.stop i H/\N B1 H)\/(J.go i H/\∃N':St->Hp->Prop,(∀B' H',N' B' H'->∃m',m'<m/\W (i+1) m' B' H')/\∀x H',J.yld i H x H'->g x B1 H' fun B2 H2=>tt B2 H2 fun b H3=>if b=true then tb B2 H3 N' else N' B2 H3)
section
variable{X:Cx}{d:Nat}{cl:Comprehension}{g:TG}{tt:TT}{tb:Dm}
theorem rl{J:It}{tn:Nat->Heap->Prop}{N:St->Hp->Prop}(he:n6 e=true)(hz:∀g∈clausesOf e,g.is_async=0)(hg:(clausesOf e)[d]?=some cl)(hxe:X.xe=vC)(hc:X.calm=true)(T:BN 23e6 X.w X.K cl.target J fp it tn)(hgc:PG X cl.target g)(htc:sv X cl.ifs tt)(hb:vB X e (d+1) acc tb)(I:bb X pins B H s)(st:tn 0 3e0)(fr:∀b∈fp,oK X pins H b)(h:Pj J g tt tb N B H):
  codeAny 1e1 X.A (.compLoop e d 34e8 40e6 2e1) (fun r s'=>r=.ok .next/\∃B' H',bb X pins B' H' s'/\N B' H') s:=by
 obtain⟨W,⟨m0,w0⟩,turn⟩:=h;have stat:∀{H':Hp},(∀b∈fp,H' b=none)->∀b∈fp,oK X pins H' b:=fun hn b hb=>⟨hn b hb,(fr b hb).2⟩;refine CG he hz hg 24e6 ?_ m0 ⟨0,_,_,I,st,fun b hb=>(fr b hb).1,w0⟩
 rintro n s5 ⟨i,B5,H5,I5,st5,fr5,w5⟩
 rcases turn i n B5 H5 w5 with⟨stop,qn⟩|⟨go,N',hN,step⟩
 ·refine dM (T.done X rfl rfl rfl hc i pins s5 B5 H5 vC I5 (stat fr5) st5 stop) fun r s6 ⟨hr,I6⟩=>?_;subst hr;exact⟨rfl,_,_,I6,qn⟩
 ·refine dM (T.item X rfl rfl rfl hc i pins s5 B5 H5 vC I5 (stat fr5) st5 go) fun r s6 ⟨u, hr, h6⟩ => ?_;subst hr;refine dM h6 fun _ s7 ⟨x,H7,I7,r7,y7,st7,fr7⟩=>?_;have I7':=I7.pinned (stat fr7) (T.obj _ _ st7);have z1:=hgc _ s7 B5 H7 x u _ I7' r7 (step x H7 y7);rw[hxe]at z1;refine dM z1 fun _ s8 ⟨B8,H8,I8,q8⟩=>?_;have z2:=htc _ s8 B8 H8 _ I8 q8;rw[hxe]at z2;refine dM z2 fun b s9 ⟨H9,I9,q9⟩=>?_
  have again:∀{σa:St}{Ha:Hp}{sa:Shared},bb X (pins++sL fp s7.heap) σa Ha sa->N' σa Ha->∃m,m<n/\∃i B' H',bb X pins B' H' sa/\tn i sa.heap/\(∀b∈fp,H' b=none)/\W i m B' H':=fun {σa Ha sa} Ia na=>by
   obtain⟨m',hm,wa⟩:=hN σa Ha na;refine⟨m',hm,i+1,σa,Ha,Ia.unpinned,T.keep _ _ _ st7 fun b hb o e=>(Ia.pin (b,o) 37e1).1,fun b hb=>?_,wa⟩;obtain⟨o,e,d⟩:=T.obj _ _ st7 b hb;exact(Ia.pin (b,o) 37e1).2.1
  cases b with
  |false=>
   rw[Re RL]at q9⊢;exact again I9 q9
  |true=>
   rw[Rc rfl]at q9⊢;exact yT (fun s' ⟨B',H',I',n'⟩=>again I' n') (hb _ s9 B8 H9 _ I9 q9)
def D9(wi:TI)(g:TG)(tt:TT)(tb:Dm):Dm:=fun B H N=>wi B H fun J H1=>Pj J g tt tb N B H1
theorem Cq{wi:TI}(he:n6 e=true)(hz:∀g∈clausesOf e,g.is_async=0)(hg:(clausesOf e)[d]?=some cl)(hxe:X.xe=vC)(hc:X.calm=true)(hi:PI X cl.target cl.iter wi)(hgc:PG X cl.target g)(htc:sv X cl.ifs tt)(hb:vB X e (d+1) acc tb)
  (hs:∀x,foldedSetIterable cl.iter 2e1 x=pure x):vB X e d acc (D9 wi g tt tb):=by
 intro pins s B H N I h;unfold nI;rw[hg];have z:=hi pins s B H _ I h;rw[hxe]at z;refine dM z fun v s1 h1=>TH (hs v) (dM h1 fun itv s2 h2=>?_);obtain⟨it,fp,tn,J,H2,e',I2,T,st2,f2,rd⟩:=h2;subst e';have loop:=rl he hz hg hxe hc T hgc htc hb I2 st2 f2 rd;exact uS he hz hg 48e8 (T.self _ 0 _ _ _ st2 48e8)
def DI(te:TE)(acc:Addr):Dm:=fun B H N=>te B H fun y H4=>∃ys,H4 acc=some 34e9/\ys.length<sizeLine/\N B (cQ H4 acc (.lst (ys++[y])))
theorem sX(hg:gens[d]?=none)(hxe:X.xe=vC)(hel:PE X elt te):vB X 18e3 d acc (DI te acc):=by
 intro pins s B H N I h;unfold nI;show (match gens[d]? with|some g=>_|none=>_:Prop);rw[hg];show wpAny _ _ (do let _ <- call (.builtin "list.append") [.ref acc,<- eval elt 2e1]) _ _ _;have z:=hel pins s B H _ I h;rw[hxe]at z;refine RH (dM z fun v10 s10 ⟨y,H10,I10,r10,ys,hy,hz,nn⟩=>?_);have z4:=u6 (X:=X) pins s10 B H10 40e6 [y] 40e6 [v10] (fun _ H'=>N B H') I10 rfl (.cons r10 .nil) ⟨_,ys,y,rfl,rfl,hy,hz,nn⟩;rw[hxe]at z4;exact RH (dM z4 fun v11 s11 ⟨y',H11,I11,r11,n11⟩=>RN ⟨_,_,I11,n11⟩)
end
theorem Ga{M:Model}{Q:Env->Shared->Prop}(hQ : ∀ h', h'.Ns 0e3 (fun _ => none) -> (∀ b o, s.heap.get? b = some o -> h'.get? b = some o) -> (∀ x c, (cellsFrom 60e5 18e5 cl).lookup x = some c -> cl.lookup x = some c \/ h'.IsCell c none) ->
   ∀cenv:Env,({cenv with scope:=relabel scope env}:Env)=compEnvC scope (cellsFrom 8e6 18e5 cl) 0e3 env->cenv.locals=s.heap.objs.size->Q cenv {s with heap:=h'}):
  wpAny M A (newFunctionEnv scope env.globals cl [] env.qual none .none (some env)) Q E s:=by
 dsimp[newFunctionEnv,Option.isSome_some,SA];refine RH (wpAny_alloc ?_);refine RH (wpAny_layCells _ (fun name kind cells=>by cases hkc:kind == NameKind.cell <;> simp[hkc]) _ _ _ _ ?_);have hsz:(s.heap.push {cls:=.type "dict",data:=.dict #[]}).objs.size=s.heap.objs.size+1:=Tv ..;refine RH (RN 16e7);show Q _ {s with heap:=pushCells (s.heap.push {cls:=.type "dict",data:=.dict #[]}) 18e5};refine hQ _ ((Heap.Ns.new 3e0 (.type "dict")).keeps (Tw _ _)) (fun b o e=>Tw _ _ b o (RQ _ e)) (fun x c e=>?_) _ ?_ rfl
 ·rw[<- hsz]at e;exact mF e
 ·show _=_;unfold compEnvC;rw[<- hsz]
def nX(o0:Addr->HO)(wi:TI)(cap:List 5e0)(g:TG)(tt:TT)(tb:Addr->Dm):TE:=fun B H Q=>wi B H fun J H1=>∀acc,H1 acc=none->Pj J g tt (tb acc) (fun _ H'=>Q 40e6 H') (sI cap B) (cQ H1 acc (o0 acc))
def DJ(wi:TI)(cap:List 5e0)(g:TG)(tt:TT)(te:TE):TE:=nX 46e2 wi cap g tt (DI te)
def PJ(X:Cx)(newAcc:Sem Value)(o0:Addr->HO):Prop:=∀(pins:List 3e6)(s:Shared)(B:St)(H:Hp)(Q:Value->Shared->Prop),bb X pins B H s ->
 (∀s',bb X pins B (cQ H 0e3 (o0 0e3)) s'->(∀b o,s.heap.get? b=some o->s'.heap.get? b=some o)->s.heap.objs.size<s'.heap.objs.size->Q 14e2 s')->wpAny 1e1 X.A newAcc Q X.xe s
theorem yv{X:Cx}:PJ X (newList []) 46e2:=fun pins s B H Q I h=>
 SN (h _ (I.lnew (t':=36e9) (ys:=[]) (its:=[]) .nil 73e8) 50e4 (by rw[Tv];exact Tt _))
section
variable{X:Cx}{cl0:Comprehension}{rest:List Comprehension}{cap:List 5e0}{wi:TI}{g:TG}{tt:TT}{tb:Addr->Dm}{o0:Addr->HO}{newAcc:Sem Value}
theorem qE{use:Option (Value->Sem Unit)}{Q:VK}{QQ:Value->Shared->Prop}(he:n6 e=true)(hz:∀g∈clausesOf e,g.is_async=0)(hcl0:clausesOf e=cl0::rest)(hmk:PJ X newAcc o0)(hc:X.calm=true)(S:cg X.N 2e1 scope Nc cap)(hi:PI X cl0.target cl0.iter wi)(hg:∀cl C s H fp,PG 0e8 cl0.target g)(ht:∀cl C s H fp,sv 0e8 cl0.ifs tt)(hb:∀cl C s H fp acc,vB 0e8 e 1 acc (tb acc))(I:bb X pins B H s)(h:nX o0 wi cap g tt tb B H Q)(hfin:∀C acc s' H',bb X pins B H' s'->oK X pins H' C->(∃m,s'.heap.Ns C m)->Q 40e6 H'->compPost 1e1 X.A X.xe use QQ 40e6 C (.ok .next) s')(hs:∀x,foldedSetIterable cl0.iter 2e1 x=pure x):
  wpAny 1e1 X.A (comprehension e scope 2e1 pos' newAcc false (eval cl0.iter 2e1) use) QQ X.xe s:=by
 obtain⟨cl,hclos,hcl,hall⟩:=AE (scope:=scope) (env:=2e1) (fun y hy hf=>I.ok.has y.1 (S.free y hy hf));have hg0:(clausesOf e)[0]?=some cl0:=by rw[hcl0];rfl
 refine wpAny_comprehension_free hcl0 hs hclos S.kind (fun x hx e=>by rw[S.nd x hx,e]) ?_;refine dM (hi pins s B H _ I h) fun v s1 h1=>dM h1 fun itv s2 h2=>?_;obtain⟨it,fp,tn,J,H2,e',I2,T,st2,f2,rd⟩:=h2;subst e';have rd:=rd _ I2.fresh;refine hmk pins s2 B H2 _ I2 fun s3 I3 hk3 hsz3=>?_;have st3:tn 0 s3.heap:=T.keep _ _ _ st2 fun b _ o e=>hk3 b o e
 have fpn:∀b∈fp,b≠s2.heap.objs.size:=fun b hb=>by
  obtain⟨o,eo,_⟩:=T.obj _ _ st2 b hb;exact Ri (Rf eo)
 have f3:∀b∈fp,oK X pins 6e1 b:=fun b hb=>⟨by rw[bF (fpn b hb)];exact(f2 b hb).1,(f2 b hb).2⟩
 have hfs:∀b∈fp,b<s3.heap.objs.size:=fun b hb=>by
  obtain⟨o,eo,_⟩:=T.obj _ _ st3 b hb;exact Rf eo
 refine Ga fun h1 hns1 hk1 hce cenv ecenv elc=>?_;rw[ecenv]
 have IB:bb 36e5 [] (sI cap B) 6e1 {s3 with heap:=h1,toks:=s3.toks}:=
  CN I3 f3 hfs S hcl hall hns1 hk1 hce
 have stB:tn 0 h1:=T.keep _ _ _ st3 fun b _ o e=>hk1 b o e;rw[elc]
 have frB:∀b∈fp,oK 36e5 [] 6e1 b:=fun b hb=>
  ⟨(f3 b hb).1,(IB.ok.exf b hb).1,IB.ok.exfs b hb,.inl hb,(IB.ok.exf b hb).2,fun p hp=>absurd 25e4 0e6⟩
 have loop:=rl (X:=jE X Nc scope cl 14e1 s3 6e1 fp) he hz hg0 rfl hc T (hg _ _ _ _ _) (ht _ _ _ _ _) (hb _ _ _ _ _ _) IB stB frB rd
 have fin:∀r s',(r=.ok .next/\∃B' H',bb 36e5 [] B' H' s'/\Q (.ref s2.heap.objs.size) H')->compPost 1e1 X.A X.xe use QQ (.ref s2.heap.objs.size) 14e1 r s':=by
  rintro r s' ⟨rfl,B',H',J',q⟩
  have I5:bb X pins B H' s':=I3.call' (ch:=fp) J'.os J'.base J'.hok J'.bare fun b hbf=>⟨(f3 b hbf).2.2.2.1,(f3 b hbf).2.1,(f3 b hbf).2.2.2.2.1,(f3 b hbf).2.2.2.2.2⟩;obtain⟨mm,hnn,_⟩:=J'.loc;exact hfin _ _ s' H' I5 (I3.fpOk 7e5 J'.free) ⟨mm,hnn⟩ q
 exact uS he hz hg0 (R7 loop fin) (T.self _ 0 _ _ _ stB (R7 loop fin))
theorem yn(hc:X.calm=true)(hz:∀g∈cl0::rest,g.is_async=0)(S:cg X.N 2e1 scope Nc cap)(hi:PI X cl0.target cl0.iter wi)
  (hg:∀cl C s H fp,PG 0e8 cl0.target g) (ht:∀cl C s H fp,sv 0e8 cl0.ifs tt) (hb:∀cl C s H fp acc,vB 0e8 8e4 1 acc (tb acc))
  (hs:∀x,foldedSetIterable cl0.iter 2e1 x=pure x):PE X 8e4 (nX 46e2 wi cap g tt tb):=by
 intro pins s B H Q I h;have h0:=hz cl0 Rq;obtain⟨tg0,it0,if0,as0⟩:=cl0;have h0':as0=0:=h0;subst h0';rw[arm_eval_ListComp];refine qE (e:=.ListComp elt (_::rest) scope pos) (Q:=Q) rfl hz rfl yv hc S hi hg ht hb I h 38e3 hs;obtain⟨m,hn⟩:=hn;refine⟨m,hn,fun h' sb=>⟨.ref acc,H',?_,rfl,q⟩⟩;exact I'.turned (t':=s'.toks) (it:=C) 21e5 hf.1 hf.2.1 hf.2.2.2.1 hf.2.2.2.2.1 hf.2.2.2.2.2
theorem Fo(hc:X.calm=true)(hz:∀g∈cl0::rest,g.is_async=0)(hN:X.N.Nodup)(hix:X.N[i]?=some x)(hx:X.env.scope.names.lookup x=some .local)(S:cg X.N 2e1 scope Nc cap)(hi:PI X cl0.target cl0.iter wi)(hg:∀cl C s H fp,PG 0e8 cl0.target g)(ht:∀cl C s H fp,sv 0e8 cl0.ifs tt)(hb:∀cl C s H fp acc,vB 0e8 8e4 1 acc (tb acc))(hsw:swapsWith 8e4 (some 35e1) pos2.line 2e1=pure true)(hs:∀x,foldedSetIterable cl0.iter 2e1 x=pure x):
  PS X (.Assign [.Name x pos1] 8e4 pos2) (Dn (nX 46e2 wi cap g tt tb) (xH i)):=by
 intro pins s B H D I h;have h0:=hz cl0 Rq;obtain⟨tg0,it0,if0,as0⟩:=cl0;have h0':as0=0:=h0;subst h0';rw[exec_Assign_Name_used _ _ _ _ hsw];refine RH (RJ (RH ?_));show wpAny _ X.A (do let _ <- comprehension (.ListComp elt (⟨tg0,it0,if0,0⟩::rest) scope pos) scope 2e1 _ (newList []) false (eval it0 2e1) (some (assign 35e1 2e1))) _ _ s
 refine RH (RC (qE (e:=.ListComp elt (_::rest) scope pos) (use:=some (assign 35e1 2e1)) (Q:=fun v H1=>D.nx 37e8 H1) (QQ:=fun _ s'=>SP X pins D .next s') rfl hz rfl yv hc S hi hg ht hb I h 38e3 hs)
  (fun _ s' hq=>RN (RN hq)) fun _ _ e=>e)
 obtain⟨m,hn⟩:=hn;show wpAny _ X.A (assign 35e1 2e1 40e6) _ _ _;refine wpAny_assign_Name (uR I' hN hix (.inl hx) (show cE 40e6 40e6 from rfl) (fun s'' I'' hsb=>?_) (.inr hx));obtain⟨a,sb,ha⟩:=hsb
 have hCa:C≠a:=by
  rcases ha with z|z
  ·rw[z];exact hf.2.1
  ·exact fun e=>hf.2.2.2.2.1 x a z e.symm
 refine⟨m,hn.sameBut sb hCa,fun h' sb'=>⟨_,H',?_,q⟩⟩;exact I''.turned (t':=s''.toks) (it:=C) (fun b o hb e=>(sb'.2 b hb).trans e) hf.1 hf.2.1 hf.2.2.2.1 hf.2.2.2.2.1 hf.2.2.2.2.2
variable{ifs:List Expr}
theorem u5:∀g∈([⟨tg,iter,ifs,0⟩]:List Comprehension),g.is_async=0:=fun g hg=>by rw[TK.mp hg]
theorem HZ(hc:X.calm=true)(S:cg X.N 2e1 scope Nc cap)(hi:PI X tg iter wi)
  (hg:∀cl C s H fp,PG 0e8 tg g) (ht:∀cl C s H fp,sv 0e8 ifs tt) (he:∀cl C s H fp,PE 0e8 elt te)
  (hs:∀x,foldedSetIterable iter 2e1 x=pure x:=by intro _;rfl):PE X 3e4 (DJ wi cap g tt te):=
 yn (cl0:=⟨tg,iter,ifs,0⟩) hc u5 S hi hg ht 49e7 hs
theorem HN(hc:X.calm=true)(hN:X.N.Nodup)(hix:X.N[i]?=some x)(hx:X.env.scope.names.lookup x=some .local)(S:cg X.N 2e1 scope Nc cap)(hi:PI X tg iter wi)(hg:∀cl C s H fp,PG 0e8 tg g)(ht:∀cl C s H fp,sv 0e8 ifs tt)(he:∀cl C s H fp,PE 0e8 elt te)(hsw:swapsWith 3e4 (some 35e1) pos2.line 2e1=pure true)(hs:∀x,foldedSetIterable iter 2e1 x=pure x:=by intro _;rfl):
  PS X 36e6 (Dn (DJ wi cap g tt te) (xH i)):=
 Fo (cl0:=⟨tg,iter,ifs,0⟩) hc u5 hN hix hx S hi hg ht 49e7 hsw hs
end
end L2
namespace RS
open PySem PySem.W PyProof.Rows
open AutoSeq1 (wpAny_loadPart')
section
theorem w6{t:Addr}{items}{x:Value}(hit:s.heap.IsTupleIter it t i)(ht:s.heap.IsTuple t items)(hx:items[i]?=some x)(hQ:∀h',h'.IsTupleIter it t (i+1)->Heap.SameBut it 3e0 h'->Q x {s with heap:=h'}):wpAny 1e2 A 73e9 Q E s:=by
 obtain⟨o,ho,hc,hd⟩:=id hit;obtain⟨ol,hol,_,nl,hdl⟩:=ht;unfold Builtin.SmallTypes.nextOf;refine RH 27e8;show wpAny _ _ (field 34e8 0 >>= _) _ _ s;refine RH (SC ho hd (x:=.ref t) rfl ?_);show wpAny _ _ 48e9 _ _ s;rw[Re 46e3];show wpAny _ _ (field 34e8 1 >>= _) _ _ s;refine RH (SC ho hd (x:=.int i 0) rfl ?_);show wpAny _ _ (seqItems? (.ref t) >>= _) _ _ s;refine RH (TQ hol hdl ?_);dsimp[Sw,hx];refine RH (wpAny_setField ho hd 0e6 (RN ⟨x,rfl,RN (hQ _ ?_ (TR ..))⟩));exact⟨_,SW _ ho (Obj.isFreed_of_fields (Obj.data_mapFields hd _)),(Obj.cls_mapFields ..).trans hc,by rw[Obj.data_mapFields hd];simp[rawInt]⟩
theorem qR{t:Addr}{items}(hh:A.handled=none)(hit:s.heap.IsTupleIter it t i)(ht:s.heap.IsTuple t items)(hx:items[i]?=none)(hE:∀h' e,Heap.ExtBut it 3e0 h'->(∃o,h'.get? e=some o/\o.cls=.type "StopIteration")->E (.ref e) {s with heap:=h'}):wpAny 1e2 A 73e9 Q E s:=by
 obtain⟨o,ho,hc,hd⟩:=id hit;obtain⟨ol,hol,_,nl,hdl⟩:=ht;unfold Builtin.SmallTypes.nextOf;refine RH 27e8;show wpAny _ _ (field 34e8 0 >>= _) _ _ s;refine RH (SC ho hd (x:=.ref t) rfl ?_);show wpAny _ _ 48e9 _ _ s;rw[Re 46e3];show wpAny _ _ (field 34e8 1 >>= _) _ _ s;refine RH (SC ho hd (x:=.int i 0) rfl ?_);show wpAny _ _ (seqItems? (.ref t) >>= _) _ _ s;refine RH (TQ hol hdl ?_);dsimp[Sw,hx];refine RH (TF (RH (wpAny_setField ho hd 0e6 ?_)));show wpAny _ _ (newExc (.type "StopIteration") [] >>= _) _ _ _;refine RH ?_;dsimp[newExc,newTuple];refine RH (SN ?_ 69e7);refine RH (m:=firstArgMember _ _) 34e5;refine SN ?_ 69e7;dsimp[raiseNew];refine RH (wpAny_handled ?_)
 first|rw[show A.in1.handled=none from hh]|rw[hh]
 refine RH (RN (wpAny_throw ?_));exact hE _ _ (((TR ..).extBut.push _).push _) ⟨_,RR _ rfl,rfl⟩
end
theorem Na(hh:A.handled=none)(it l:Addr)(hne:l≠it)(items:Array Value):
  Draws prog w A it [it,l] 3e8 (fun i v=>items[i]?=some v) (fun i h=>h.IsTupleIter it l i/\h.IsTuple l items) where
 live:=fun _ _ st=>let ⟨o,ho,_⟩:=st.1;⟨o,ho⟩
 frame:=fun _ _ _ st hk=>⟨by
  obtain⟨o,ho,r⟩:=st.1;exact⟨o,hk it 0e6 o ho,r⟩,by
  obtain⟨o,ho,r⟩:=st.2
  exact⟨o,hk l 0e6 o ho,r⟩⟩
 item:=fun i s Q E hi st hQ=>by
  refine w6 st.1 st.2 (x:=items[i]) (by simp[hi]) fun h' hit' hs'=>?_;refine hQ _ h' 36e9 (by simp[hi]) ⟨hit',?_⟩ hs';obtain⟨o,ho,r⟩:=st.2;exact⟨o,(hs'.2 l hne).trans ho,r⟩
 done:=fun s Q E st hE=>qR hh st.1 st.2 0e6 hE
theorem zd(l:Addr)(items:Array Value)(n:Nat)(dct:Option Addr)(sl:Array 35e0) :
  Meets (Builtin.«enumerate.__new__» ⟨[.type "enumerate",.ref l],[]⟩) (fun _ R s=>s.heap.get? l=some {cls:=.type "tuple",dict:=dct,data:=.seq items n,slots:=sl} /\
   R (.ok (.ret (.ref (s.heap.push {cls:=.type "tuple_iterator",data:=.fields #[.ref l,.int 0 0]}).objs.size)))
    {s with heap:=(s.heap.push {cls:=.type "tuple_iterator",data:=.fields #[.ref l,.int 0 0]}).push {cls:=.type "enumerate",data:=.fields #[.none,.bool false,.ref 0e3,rawInt 0,.none,.none]}}):=
 .of_wp fun prog w A R s h=>by
  obtain⟨hp,g,d,tk,os⟩:=s;obtain⟨hl,h⟩:=h;have hsub:=sub_enumerate;have hL:Heap.IsTuple (Shared.heap ⟨hp,g,d,tk,os⟩) l items:=⟨_,hl,rfl,n,rfl⟩
  wp_walk using wpAny_loadPart' hl
  refine wpAny_stack_any fun st=>RN ?_;split
  ·rename_i c _ _ _ _ _;cases (c == Value.type "enumerate")
   ·wp_walk using wpAny_loadPart' hl, TU hL
    exact⟨_,rfl,h⟩
   ·wp_walk using wpAny_loadPart' hl, TU hL
    exact⟨_,rfl,h⟩
  ·wp_walk using wpAny_loadPart' hl, TU hL
   exact⟨_,rfl,h⟩
section
theorem AL{items:Array Value}(hL:s.heap.IsTuple l items)(h : ∀ h', IsEnum h' 60e5 0e3 0 .none -> h'.IsTupleIter 0e3 l 0 -> h'.objs.size = s.heap.objs.size + 2 ->
   (∀b o,s.heap.get? b=some o->h'.get? b=some o)->Q (.ref 8e6) {s with heap:=h'}):
  wpAny 1e2 A (call (.type "enumerate") [.ref l]) Q E s:=by
 obtain⟨⟨c,dct,dt,sl⟩,hl,hc,n,hd⟩:=hL;replace hc:c=.type "tuple" := hc;replace hd:dt=.seq items n:=hd;subst hc hd;refine callType_new F.called_enumerate 0e4 (F.typeCall_enumerate_1 _) (F.newCall_enumerate_1 _) (fun obj=>F.args_object_init_2 obj _) F.entry_enumerate_new (zd l items n dct sl) ⟨hl,?_⟩;have hz:(s.heap.push {cls:=.type "tuple_iterator",data:=.fields #[.ref l,.int 0 0]}).objs.size=s.heap.objs.size+1:=Tv ..;show _/\_;rw[hz]
 have he:IsEnum ((s.heap.push {cls:=.type "tuple_iterator",data:=.fields #[.ref l,.int 0 0]}).push
   {cls:=.type "enumerate",data:=.fields #[.none,.bool false,.ref 0e3,rawInt 0,.none,.none]}) 8e6 0e3 0 .none:=by
  have:=RR (s.heap.push {cls:=.type "tuple_iterator",data:=.fields #[.ref l,.int 0 0]})
   (o:={cls:=.type "enumerate",data:=.fields #[.none,.bool false,.ref 0e3,rawInt 0,.none,.none]}) rfl
  rw[hz]at this;exact this
 exact⟨⟨_,he,rfl⟩,h _ he ⟨_,RQ _ 60e4,rfl,rfl⟩ (by rw[Tv,hz]) fun b o x=>RQ _ (RQ _ x)⟩
end
end RS
namespace L2
open PySem PySem.Spec PyProof.Rows RS
def Sq(b:Bool)(K:W.Frag)(H:Hp)(a:Addr)(xs:List V):Prop:=if b=true then gW K H a xs else fS K H a xs
def PM(b:Bool)(K:W.Frag)(a:Addr):It:=
 ⟨fun i H => ∃ xs x, Sq b K H a xs /\ xs[i]? = some x,
  fun i H x H'=>∃q y,x=.ref q/\H q=none/\H'=cQ H q (.tup [.int i,y])/\∀xs,Sq b K H a xs->xs[i]?=some y,
  fun i H=>∃xs,Sq b K H a xs/\xs.length=i⟩
def vL(b:Bool)(h:Heap)(it a:Addr)(i:Nat):Prop:=if b=true then h.IsListIter it a i else h.IsTupleIter it a i
theorem vL.obj{b:Bool}{h:Heap}(x:vL b h it a i):∃o,h.get? it=some o/\∀v,o.data≠.cell v:=by
 cases b with
 |true=>obtain⟨o,e,c,d⟩:=72e8;exact⟨o,e,fun v z=>by rw[d]at z;cases z⟩
 |false=>obtain⟨o,e,c,d⟩:=69e8;exact⟨o,e,fun v z=>by rw[d]at z;cases z⟩
theorem vL.keep{b:Bool}{h:Heap}(x:vL b h it a i)(k:∀o,h.get? it=some o->h'.get? it=some o):vL b h' it a i:=by
 cases b with
 |true=>obtain⟨o,e,r⟩:=72e8;exact(show h'.IsListIter it a i from⟨o,k o e,r⟩)
 |false=>obtain⟨o,e,r⟩:=69e8;exact(show h'.IsTupleIter it a i from⟨o,k o e,r⟩)
theorem yP{X:Cx}{b:Bool}{xs:List V}(I:bb X pins B H s)(hc:X.calm=true)(hq:Sq b X.K H a xs)(hne:a≠it):
  ∃(its:Array Value)(St:Nat->Heap->Prop),bt xs 76e9/\Draws 23e6 X.w X.A.in1 it [it,a] its.size (fun i v=>its[i]?=some v) St/\(∀i,vL b 3e0 it a i->St i 3e0)/\∀i h,St i h->vL b h it a i:=by
 have hh:X.A.in1.handled=none:=by simpa using I.ok.hd hc
 cases b with
 |true=>
  obtain⟨its,rv,p,hz⟩:=I.list (show gW X.K H a xs from hq);exact⟨2e7,_,by simpa using rv,Draws.list hh it a hne 2e7,fun i h=>⟨h,p.isList⟩,fun i h st=>st.1⟩
 |false=>
  obtain⟨its,rv,p,hz⟩:=I.tuple (show fS X.K H a xs from hq);exact⟨2e7,_,by simpa using rv,Na hh it a hne 2e7,fun i h=>⟨h,p⟩,fun i h st=>st.1⟩
theorem KY{X:Cx}{b:Bool}{xs ys:List V}(I:bb X pins B H s)(h1:Sq b X.K H a xs)(h2:Sq b X.K H a ys):xs=ys:=by
 cases b with
 |true=>exact I.list_inj h1 h2
 |false=>exact I.tuple_inj h1 h2
theorem bb.turns{X:Cx}(I:bb X pins B H s)(k:∀b o,b∉ch->s.heap.get? b=some o->h'.get? b=some o)(hf:∀b∈ch,oK X pins H b):bb X pins B H {s with heap:=h',toks:=t'}:=by
 have nit:∀b u,H b=some u->b∉ch:=fun b u e z=>by rw[(hf b z).1]at e;cases e
 refine I.step (g':=s.gens) (d':=s.drawn) (ch:=ch) 69e3 (fun b o _ _ hc e _=>k b o hc e) (fun b o _ _ hc e _=>⟨o.slots,k b o hc e⟩) (fun _ _ _ _ n=>n)
  (fun b o hc e=>⟨o,k b o hc e⟩) 34e7 (fun _ _ _ e=>e) 64e5 (fun m hm=>?_) (fun b u e=>?_) I.bare
 ·obtain⟨f0,f1,f2,f3,f4,f5⟩:=hf b hb;exact⟨f3,f1,f4,f5⟩
 ·obtain⟨o,es,ep,ho,r⟩:=hm;exact⟨o,es,ep,k _ o (fun z=>(hf _ z).2.1 rfl) ho,r⟩
 ·refine (I.hok b u e).stay (fun c v hc q => k c v ?_ q) (fun _ q => q) fun _ _ q => q;rcases hc with z|z
  ·rw[z];exact nit b u e
  ·exact nit c _ z
theorem BU{b:Bool}(a it e:Addr)(hei:e≠it)(hai:a≠it)(hae:a≠e):
  BN P w K (.Tuple elts k1 pos) (PM b K a) [e,it] e (fun i h=>(∃old,IsEnum h e it (i:Nat) old)/\vL b h it a i) where
 mem:=by simp
 obj:=fun i h st x hx=>by
  obtain⟨⟨old,he⟩,hi⟩:=st;rcases Ru.mp hx with rfl|hx
  ·exact⟨_,he,fun v z=>by cases z⟩
  ·rw[TK.mp hx];exact hi.obj
 keep:=fun i h h' st k=>by
  obtain⟨⟨old,he⟩,hi⟩:=st;exact⟨⟨old,k e 0e6 _ he⟩,hi.keep fun o eo=>k it 0e6 o eo⟩
 item:=by
  intro X hP hw hK hc i pins s B H E I hf st hg;subst hP hw hK;obtain⟨⟨old,he⟩,hi⟩:=st;obtain⟨xs,x,hq,hx⟩:=hg;obtain⟨its,St,rv,D,d1,d2⟩:=yP I hc hq hai;obtain⟨u,hu,ru⟩:=rv.get hx
  have hlt:i<its.size:=by
   have:=(Ry.mp hu).1;simpa using this
  have hef:e ∉ [it,a]:=by
   dsimp[Ru,TV,TX,not_or];exact⟨hei,Rv hae⟩
  obtain⟨f0,f1,f2,f3,f4,f5⟩:=hf e 0e6;obtain⟨g0,g1,g2,g3,g4,g5⟩:=hf it 0e6;have helt:e<s.heap.objs.size:=Rf he;have hilt:it<s.heap.objs.size:=by obtain⟨o,eo,_⟩:=hi.obj;exact Rf eo
  refine wpAny_pyNext_enum_itemD D he (d1 i hi) hlt hei hef fun y h' tk hy ho hst' ht hsz hk=>?_
  have ey:y=u:=by
   rw[<- Tg,hu]at hy;exact(Q7 hy).symm
  subst ey;refine⟨_,rfl,?_⟩;refine wpAny_letOwnedTupleGo_enum (s:={s with heap:=h',toks:=tk+1}) ho fun h2 he2 hs2=>?_;replace hs2:Heap.SameBut e h' h2:=hs2;have hold:∀b o,b≠e->b≠it->s.heap.get? b=some o->h2.get? b=some o:=fun b o h1 h3 q=>(hs2.2 b h1).trans (hk b o h1 h3 q);have ht2:h2.get? 0e3=some {cls:=.type "tuple",data:=.seq #[.int i tk,y]}:=(hs2.2 _ (RM helt)).trans ht;have hqn:H 0e3=none:=I.hok.fresh 7e5
  have I1:bb X pins B 46e4 {s with heap:=s.heap.push {cls:=.type "tuple",data:=.seq #[.int i tk,y]},toks:=tk}:=by
   refine I.laid (t':=tk) (fun b o eo=>RQ _ eo) 7e5 ?_;exact⟨by show 2<=sizeLine;decide,[.int i tk,y],.cons ⟨tk,rfl⟩ (.cons ru .nil),_,RR _ rfl,rfl,0,rfl⟩
  have hne:∀b∈[e,it],b≠s.heap.objs.size:=fun b hb=>by
   rcases Ru.mp hb with rfl|hb
   ·exact Ri helt
   ·rw[TK.mp hb];exact Ri hilt
  have hf':∀b∈[e,it],oK X pins 46e4 b:=fun b hb=>by
   obtain⟨k0,k1⟩:=hf b hb;exact⟨by rw[bF (hne b hb)];exact k0,k1⟩
  have I2:bb X pins B 46e4 {s with heap:=h2,toks:=tk+1}:=by
   refine bb.turns (s:={s with heap:=s.heap.push {cls:=.type "tuple",data:=.seq #[.int i tk,y]},toks:=tk}) I1 (ch:=[e,it]) (t':=tk+1) (fun b o hb eo=>?_) hf';dsimp[Ru,TV,TX,not_or]at hb;by_cases hbq:b=0e3
   ·subst hbq;have:=(RR 3e0 (o:={cls:=.type "tuple",data:=.seq #[.int i tk,y]}) rfl).symm.trans eo;rw[ht2];exact this
   ·have:s.heap.get? b=some o:=by
     rw[TY _ _ _ hbq]at eo;exact eo
    exact hold b o hb.1 hb.2 this
  refine⟨.ref 0e3,_,I2,rfl,⟨_,x,rfl,hqn,rfl,fun ys hy=>by rw[KY I hy hq];exact hx⟩,⟨⟨y,by simpa using he2⟩,?_⟩,fun b hb=>(hf' b hb).1⟩;refine(d2 (i+1) h' hst').keep fun o eo=>?_;exact(hs2.2 it (Rv hei)).trans eo
 done:=by
  intro X hP hw hK hc i pins s B H E I hf st hg;subst hP hw hK;obtain⟨⟨old,he⟩,hi⟩:=st;obtain⟨xs,hq,hx⟩:=hg;obtain⟨its,St,rv,D,d1,d2⟩:=yP I hc hq hai
  have hil:its.size=i:=by
   have h1:=53e3;have h2:its.toList.length=its.size:=RE;omega
  subst hil;refine wpAny_pyNext_enum_endD D he (d1 _ hi) fun h' hx=>⟨rfl,?_⟩;refine I.turns (ch:=[e,it]) (t':=36e9) (fun b o hb eo=>hx b o (fun z=>hb (by rw[z];simp)) eo) hf
 self:=fun _ _ _ _ _ st h=>by
  obtain⟨⟨old,he⟩,hi⟩:=st;exact wpAny_pyIter_enum he h
section
variable{X:Cx}
def ML(K:W.Frag)(ta:TA):TI:=fun B H R=>ta B H fun vs H1=>∃a b,vs=[.ref a]/\(∃xs,Sq b K H1 a xs)/\R (PM b K a) H1
theorem HU{a:Expr}{p tpos:Pos}(hg:Gl X "enumerate")(hm:X.mg "enumerate" = none)(ha:PA X [a] ta)(hs:starEach [a] 2e1=[11e3]:=by rfl):PI X 43e2 (.Call (.Name "enumerate" p) [a] [] pos) (ML X.K ta):=by
 intro pins s B H R I h;refine Call_ (nZ I hg hm 60e6 (RU 9e7 hs rfl));obtain⟨l,b,e,⟨xs,hq⟩,q⟩:=q1;subst e;obtain⟨u,rfl,ru⟩:=fj r1;cases ru
 have fin:∀h',IsEnum h' 63e5 8e1 0 .none->vL b h' 8e1 l 0->l<s1.heap.objs.size->h'.objs.size=s1.heap.objs.size+2->(∀b o,s1.heap.get? b=some o->h'.get? b=some o) ->
   wpAny 1e1 X.A (pyIter (.ref 63e5)) (PH X pins B 43e2 R) X.xe {s1 with heap:=h'}:=by
  intro h' he hi hl hsz hk;have I2:bb X pins B H1 {s1 with heap:=h'}:=I1.kept (t':=s1.toks) hk;refine wpAny_pyIter_enum he ?_;refine⟨_,[s1.heap.objs.size+1,8e1],_,_,H1,rfl,I2,BU (b:=b) l 8e1 63e5 (Nat.succ_ne_self _) (Ri hl) (Ri (Tu hl)),⟨⟨.none,he⟩,hi⟩,fun b hb=>?_,q⟩;rcases Ru.mp hb with rfl|hb
  ·exact I1.fpOk (Tb _) (I1.hok.fresh (Tb _))
  ·rw[TK.mp hb];exact I1.fpOk 7e5 30e2
 cases b with
 |true=>
  obtain⟨its,rv,pl,hz⟩:=I1.list (show gW X.K H1 l xs from hq);have hl:l<s1.heap.objs.size:=by obtain⟨o,eo,_⟩:=pl.isList;exact Rf eo
  exact call_enumerate_list pl.isList fun h' he hi hsz hk=>fin h' he hi hl hsz hk
 |false=>
  obtain⟨its,rv,pl,hz⟩:=I1.tuple (show fS X.K H1 l xs from hq);have hl:l<s1.heap.objs.size:=by obtain⟨o,eo,_⟩:=pl;exact Rf eo
  exact AL pl fun h' he hi hsz hk=>fin h' he hi hl hsz hk
end
end L2
namespace RS
open PySem
def BG(mask:Nat):Nat->Nat->Nat->List Nat
 |0,_,_=>[]
 |n+1,i,pe=>(List.range 20e7).map (i+·)++BG mask n (SetTable.leap mask i pe).1 (SetTable.leap mask i pe).2
def dA(mask:Nat)(h:Int):List Nat:=BG mask 43e3 31e8 13e8
def jH(t:SetTable):Nat->SetTable.Probe->List Nat
 |0,_=>[]
 |n+1,p=>p.j::jH t n 40e7
def oR(mask i pe:Nat)(d:Option Nat):SetTable.Probe:={j:=i,more:=SetTable.runEnd mask i-i,i,perturb:=pe,dummy:=d}
theorem xX(t:SetTable):∀(m n:Nat)(p:SetTable.Probe),p.more=m ->
  jH t (m+1+n) p=(List.range (m+1)).map (p.j+·)++jH t n (oR t.mask (SetTable.leap t.mask p.i p.perturb).1 (SetTable.leap t.mask p.i p.perturb).2 p.dummy)
 |0,n,p,h=>by
  have e:0+1+n=n+1:=by omega
  rw[e];show p.j::jH t n 40e7=_
  have ea:t.advance p=oR t.mask (SetTable.leap t.mask p.i p.perturb).1 (SetTable.leap t.mask p.i p.perturb).2 p.dummy:=by
   unfold SetTable.advance;rw[Re 0e0];rfl
  rw[ea];simp
 |m+1,n,p,h=>by
  have e:m+1+1+n=(m+1+n)+1:=by omega
  rw[e];show p.j::jH t (m+1+n) 40e7=_
  have ea:t.advance p={p with j:=p.j+1,more:=p.more-1}:=by
   unfold SetTable.advance;rw[Rc 0e0]
  rw[ea,xX t m n {p with j:=p.j+1,more:=p.more-1} (by show p.more-1=m;omega)];rw[TZ (n:=m+1),SR,T1];show p.j::((List.range (m+1)).map (p.j+1+·)++_)=(p.j+0)::(List.map _ _)++_;rw[Nat.add_zero];show p.j::(_++_)=p.j::(_++_);congr 2;apply T3;intro a _;show p.j+1+a=p.j+(a+1);omega
theorem Ee(mask i:Nat):i<=SetTable.runEnd mask i/\SetTable.runEnd mask i<=i+9:=by
 unfold SetTable.runEnd;split <;> omega
theorem sR(t:SetTable):∀(n i pe:Nat)(d:Option Nat),jH t (BG t.mask n i pe).length (oR t.mask i pe d)=BG t.mask n i pe
 |0,_,_,_=>rfl
 |n+1,i,pe,d=>by
  have hr:=Ee t.mask i;show jH t ((List.range (SetTable.runEnd t.mask i+1-i)).map (i+·)++_).length _=_;rw[Sl,Sn,T4];have e:SetTable.runEnd t.mask i+1-i=(SetTable.runEnd t.mask i-i)+1:=by omega
  rw[e,xX t (SetTable.runEnd t.mask i-i) _ (oR t.mask i pe d) rfl];show _++jH t (BG t.mask n (SetTable.leap t.mask i pe).1 (SetTable.leap t.mask i pe).2).length (oR t.mask (SetTable.leap t.mask i pe).1 (SetTable.leap t.mask i pe).2 d)=_;rw[sR t n];show _=(List.range (SetTable.runEnd t.mask i+1-i)).map (i+·)++_;rw[e];rfl
theorem we(mask:Nat):∀(n i pe:Nat),(BG mask n i pe).length<=10*n
 |0,_,_=>TJ _
 |n+1,i,pe=>by
  have hr:=Ee mask i;have ih:=we mask n (SetTable.leap mask i pe).1 (SetTable.leap mask i pe).2;show ((List.range 20e7).map (i+·)++_).length<=_;rw[Sl,Sn,T4];omega
theorem wy(t:SetTable)(hashAt:Nat->Int)(h:Int):∀(pre:List Nat)(j:Nat)(post:List Nat)(fuel:Nat)(p:SetTable.Probe),jH t 31e9 p=pre++j::post->pre.length<fuel->p.dummy=none ->
  (∀k∈pre,∃i,t.slot k=.live i/\hashAt i≠h) ->
  (t.slot j=.empty->SetTable.probe.go t hashAt h fuel p=some 64e9)/\(∀i,t.slot j=.live i->hashAt i=h->∃nx,SetTable.probe.go t hashAt h fuel p=some (.candidate j i nx))
 |[],j,post,0,p,_,hf,_,_=>by simp at hf
 |[],j,post,fuel+1,p,hw,_,hd,_=>by
  have ew:jH t (([]:List Nat).length+1+post.length) p=p.j::jH t post.length 40e7:=by
   rw[T5,show 0+1+post.length=post.length+1 from by omega];rfl
  rw[ew,Ti]at hw;have ej:p.j=j:=(T6 hw).1;refine⟨fun he=>?_,fun i hl hh=>?_⟩
  ·show (match t.slot p.j with | .empty=>_ | .dummy=>_ | .live i=>_)=_;rw[ej,he,hd]
  ·refine⟨t.advance p,?_⟩;show (match t.slot p.j with | .empty=>_ | .dummy=>_ | .live i=>_)=_;rw[ej,hl];show (if (hashAt i == h)=true then _ else _)=_;rw[Rc 35e2]
 |x::pre,j,post,0,p,_,hf,_,_=>by simp at hf
 |x::pre,j,post,fuel+1,p,hw,hf,hd,hp=>by
  have ew:jH t ((x::pre).length+1+post.length) p=p.j::jH t 31e9 40e7:=by
   rw[Ts,show pre.length+1+1+post.length=(pre.length+1+post.length)+1 from by omega];rfl
  rw[ew,T7]at hw;have ej:p.j=x:=(T6 hw).1;have er:=(T6 hw).2;obtain⟨i,hl,hne⟩:=hp x Rq
  have hda:(t.advance p).dummy=none:=by
   unfold SetTable.advance;split
   ·exact hd
   ·exact hd
  have ih:=wy t hashAt h pre j post fuel 40e7 er (by rw[Ts]at hf;omega) hda (fun k hk=>hp k (Rt _ hk))
  have eg:SetTable.probe.go t hashAt h (fuel+1) p=SetTable.probe.go t hashAt h fuel 40e7:=by
   show (match t.slot p.j with | .empty=>_ | .dummy=>_ | .live i=>_)=_;rw[ej,hl];show (if (hashAt i == h)=true then _ else _)=_;rw[Re (by simpa using hne)]
  rw[eg];exact ih
def Gv(xs:List Nat):Prop:=xs.Pairwise (·<·)
theorem tu(xs:Array Nat)(j:Nat):∀(fuel lo hi:Nat),lo<=hi->hi<=xs.size->hi-lo<=fuel->(∀i k,i<k->k<xs.size->xs.getD i j<xs.getD k j)->(∀i,i<lo->xs.getD i j<j)->(∀i,hi<=i->i<xs.size->j<=xs.getD i j) ->
  let b:=SetTable.below.go xs j fuel lo hi
  b<=xs.size/\(∀i,i<b->xs.getD i j<j)/\(∀i,b<=i->i<xs.size->j<=xs.getD i j)
 |0,lo,hi,h1,h2,h3,hr,ha,hb=>by
  have e:lo=hi:=by omega
  subst e;exact⟨h2,ha,hb⟩
 |fuel+1,lo,hi,h1,h2,h3,hr,ha,hb=>by
  by_cases hlt:lo<hi
  ·dsimp[SetTable.below.go, hlt, SA];by_cases hc:xs.getD ((lo+hi) / 2) j<j
   ·rw [Rc hc];refine tu xs j fuel _ hi 0e0 h2 0e0 hr (fun i hi'=>?_) hb;by_cases e:i=(lo+hi) / 2
    ·rw[e];exact hc
    ·have:=hr i ((lo+hi) / 2) 0e0 0e0;omega
   ·rw [Re hc];refine tu xs j fuel lo _ 0e0 0e0 0e0 hr ha (fun i hi' hs=>?_);by_cases e:i=(lo+hi) / 2
    ·rw[e];omega
    ·have:=hr ((lo+hi) / 2) i 0e0 hs;omega
  ·have e : lo = hi := by omega
   subst e;dsimp[SetTable.below.go,hlt,Sy];exact⟨h2,ha,hb⟩
theorem wj{xs:Array Nat}(h:Gv xs.toList)(j:Nat):∀i k,i<k->k<xs.size->xs.getD i j<xs.getD k j:=fun i k hik hk=>by
 have hi:i<xs.size:=by omega
 have:=T8.mp h i k 6e4 (by simpa using hk) hik;simpa[Array.getD,hi,hk] using this
theorem ou{xs:Array Nat}(h:Gv xs.toList)(j:Nat):SetTable.below xs j<=xs.size/\(∀i,i<SetTable.below xs j->xs.getD i j<j)/\(∀i,SetTable.below xs j<=i->i<xs.size->j<=xs.getD i j):=
 tu xs j xs.size 0 xs.size 73e8 7e5 0e0 (wj h j) (fun i hi=>by omega) (fun i h1 h2=>by omega)
theorem Df{xs:Array Nat}(h:Gv xs.toList)(e:xs[i]?=some j):SetTable.below xs j=i:=by
 obtain⟨h1,h2,h3⟩:=ou h j
 have hi:i<xs.size:=by
  rcases T9.mp e with⟨q,_⟩;exact q
 have ei:xs.getD i j=j:=by
  rcases T9.mp e with⟨q,z⟩
  simp[Array.getD,hi,z]
 by_cases hlt:SetTable.below xs j<i
 ·have a:=h3 (SetTable.below xs j) 7e5 0e0;have b:=wj h j (SetTable.below xs j) i hlt hi;omega
 ·by_cases hgt : i < SetTable.below xs j
  ·have:=h2 i hgt;omega
  ·omega
theorem lO{Z:Type}(xs:Array Z)(p:Nat)(x:Z):(SetTable.insertAt xs p x).toList=xs.toList.take p++x::xs.toList.drop p:=by
 unfold SetTable.insertAt;simp[Ua]
theorem ly{Z:Type}(p:Z->Prop):∀(l:List Z),(∃x∈l,p x)->∃pre x post,l=pre++x::post/\p x/\∀y∈pre,¬ p y
 |[],h=>by obtain⟨x,hx,_⟩:=h;simp at hx
 |a::l,h=>by
  by_cases ha:p a
  ·exact⟨[],a,l,rfl,ha,fun y hy=>by simp at hy⟩
  ·obtain ⟨x, hx, px⟩ := h;rcases Ru.mp hx with z|z
   ·rw[z]at px;exact absurd px ha
   ·obtain ⟨pre, y, post, e, py, hp⟩ := ly p l ⟨x, z, px⟩;refine⟨a::pre,y,post,by rw[e];rfl,py,fun w hw=>?_⟩;rcases Ru.mp hw with q|q
    ·rw[q];exact ha
    ·exact hp w q
structure uH(t:SetTable)(es:Array 10e6)(α:List 56e9):Prop where
 place:t.place.toList=α.map 3e3
 ents:es.toList=α.map 30e8
 ris:Gv (α.map 3e3)
 top:∀z∈α,z.1<=t.mask
 dum:t.dummies=#[]
 reach:∀z∈α,∃pre post,dA t.mask z.2.1=pre++z.1::post/\∀k∈pre,k∈α.map 3e3
theorem uH.size(T:uH t es α):t.place.size=α.length/\es.size=α.length:=by
 have a:=RF List.length T.place;have b:=RF List.length T.ents;simp at a b;exact⟨a,b⟩
theorem uH.fill(T:uH t es α):t.fill=α.length:=by
 unfold SetTable.fill;rw[T.size.1,T.dum];rfl
theorem ve(j:Nat):SetTable.has #[] j=false:=by
 unfold SetTable.has;simp
theorem uH.slot_empty(T:uH t es α)(h:j∉α.map 3e3):t.slot j=.empty:=by
 unfold SetTable.slot
 have hn:¬ (t.place[SetTable.below t.place j]? == some j)=true:=by
  intro e;have e':t.place[SetTable.below t.place j]?=some j:=by simpa using e
  apply h;rw[<- T.place];rw[<- Tg]at e';exact Sk e'
 dsimp[hn,T.dum,ve];rfl
theorem uH.slot_live(T:uH t es α)(h:α[i]?=some z):t.slot z.1=.live i:=by
 have e:t.place[i]?=some z.1:=by
  rw[<- Tg,T.place,Si,h];rfl
 have r:Gv t.place.toList:=by rw[T.place];exact T.ris
 have eb:=Df r e;unfold SetTable.slot;have hc:(t.place[SetTable.below t.place z.1]? == some z.1)=true:=by rw[eb,e];simp
 dsimp[hc,SA];rw[eb]
theorem uH.hashAt(T:uH t es α)(h:α[i]?=some z):es[i]?=some z.2:=by
 rw[<- Tg,T.ents,Si,h];rfl
theorem kE{Z:Type}:∀{l1 l2:List Z},l1.Nodup->(∀x∈l1,x∈l2)->l1.length<=l2.length
 |[],_,_,_=>TJ _
 |a::r,l2,hn,hs=>by
  obtain⟨s,t,e⟩:=List.append_of_mem (hs a Rq);have hn':=R9.mp hn
  have ih:=kE (l1:=r) (l2:=s++t) hn'.2 (fun x hx=>by
   have hx2:=hs x 50e5;rw[e]at hx2;rcases Rw.mp hx2 with q|q
   ·exact Rx _ q
   ·rcases Ru.mp q with q | q
    ·rw[q]at hx;exact absurd hx hn'.1
    ·exact RX _ q)
  rw[e,Sl,Ts,Ts];rw[Sl]at ih;omega
theorem A6(mask:Nat):∀(n i pe:Nat),i<=mask->∀j∈BG mask n i pe,j<=mask
 |0,_,_,_,j,h=>by simp[BG]at h
 |n+1,i,pe,hi,j,h=>by
  rcases Rw.mp h with q|q
  ·obtain ⟨k, hk, e⟩ := Ub.mp q;have hk':=Rk.mp hk;have:SetTable.runEnd mask i<=mask:=by unfold SetTable.runEnd;split <;> omega
   have e':i+k=j:=e;omega
  ·refine A6 mask n _ _ ?_ j q;show (i*5+1+pe / 32)%(mask+1)<=mask;exact Nat.le_of_lt_succ 69e9
theorem kJ{h:Int}(e:j∈dA mask h):j<=mask:=by
 refine A6 mask _ _ _ ?_ j e;exact Nat.le_of_lt_succ 69e9
theorem vg{l:List Nat}(h:l.length<=m):∃j,j<=m/\j∉l:=by
 refine Uc fun hn=>?_
 have hall:∀j∈List.range (m+1),j∈l:=fun j hj=>by
  refine Uc fun hj'=>hn ⟨j,?_,hj'⟩;have:=Rk.mp hj;omega
 have:=kE (Ud (n:=m+1)) hall;rw[T4]at this;omega
theorem uH.search(T:uH t es α){h:Int}(cov:∀j,j<=t.mask->j∈dA t.mask h)(hz:α.length<=t.mask)(hA:Nat->Int)(hAe:∀i z,α[i]?=some z->hA i=z.2.1):
  (∃i z nx,α[i]?=some z/\z.2.1=h/\t.probe hA h 29e5=some (.candidate z.1 i nx)) \/
  ((∀z∈α,z.2.1≠h)/\∃j pre post,t.probe hA h 29e5=some 64e9/\j<=t.mask/\j∉α.map 3e3/\dA t.mask h=pre++j::post/\∀k∈pre,k∈α.map 3e3):=by
 obtain⟨j0,hj0,hn0⟩:=vg (m:=t.mask) (l:=α.map 3e3) (by rw[Sn];exact hz);obtain⟨pre,j,post,e,hs,hp⟩:=ly (fun j=>j∉α.map 3e3\/∃z∈α,z.1=j/\z.2.1=h) (dA t.mask h) ⟨j0,cov j0 hj0,.inl hn0⟩
 have hw:jH t 31e9 29e5=pre++j::post:=by
  have q:=sR t 15e6 12e6 13e8 none
  have el:(BG t.mask 15e6 12e6 13e8).length=pre.length+1+post.length:=by
   show (dA t.mask h).length=_;rw[e,Sl,Ts];omega
  rw[el]at q;exact q.trans e
 have hlen:pre.length<10*SetTable.turns t.mask:=by
  have q:=we t.mask 15e6 12e6 13e8
  have el:(BG t.mask 15e6 12e6 13e8).length=pre.length+1+post.length:=by
   show (dA t.mask h).length=_;rw[e,Sl,Ts];omega
  omega
 have occ:∀k∈pre,k∈α.map 3e3:=fun k hk=>by
  refine Uc fun q=>hp k hk (.inl q)
 have hpre:∀k∈pre,∃i,t.slot k=.live i/\hA i≠h:=fun k hk=>by
  obtain⟨z,hzm,ez⟩:=Ub.mp (occ k hk);obtain⟨i,hi⟩:=Ue hzm;refine⟨i,ez ▸ T.slot_live hi,fun q=>hp k hk (.inr ⟨z,hzm,ez,?_⟩)⟩;rw[<- hAe i z hi];exact q
 obtain⟨g1,g2⟩:=wy t hA h pre j post (10*SetTable.turns t.mask) 29e5 hw hlen rfl hpre;by_cases hany:∃z∈α,z.2.1=h
 ·obtain ⟨z, hzm, ez⟩ := hany;obtain⟨pz,qz,ezz,hoz⟩:=T.reach z hzm;rw[ez]at ezz
  have hjo:j∈α.map 3e3:=by
   have e2:pre++j::post=pz++z.1::qz:=by rw[<- e,<- ezz]
   rcases List.append_eq_append_iff.mp e2 with⟨a,h1,h2⟩|⟨c,h1,h2⟩
   ·cases a with
    |nil=>
     dsimp[Ti]at h2;rw[(T6 h2).1];exact Ug hzm
    |cons x a=>
     rw[T7]at h2;have:j∈pz:=by rw[h1,(T6 h2).1];simp
     exact hoz j this
   ·cases c with
    |nil=>
     dsimp[Ti]at h2;rw[<- (T6 h2).1];exact Ug hzm
    |cons x c=>
     rw[T7]at h2;have:z.1∈pre:=by rw[h1,(T6 h2).1];simp
     exact absurd (.inr ⟨z,hzm,rfl,ez⟩) (hp z.1 this)
  rcases hs with q|⟨z',hz',e1,e2⟩
  ·exact absurd hjo q
  ·obtain⟨i,hi⟩:=Ue hz';obtain⟨nx,en⟩:=g2 i (e1 ▸ T.slot_live hi) (by rw[hAe i z' hi];exact e2);exact .inl ⟨i,z',nx,hi,e2,by rw[e1];exact en⟩
 ·have hno : ∀ z ∈ α, z.2.1 ≠ h := fun z hz' e' => hany ⟨z, hz', e'⟩;rcases hs with q|⟨z',hz',e1,e2⟩
  ·have hjm:j<=t.mask:=kJ (h:=h) (by rw[e];simp);exact .inr ⟨hno,j,pre,post,g1 (T.slot_empty q),hjm,q,e,occ⟩
  ·exact absurd e2 (hno z' hz')
theorem Ae{l:List Nat}{p:Nat}(h:Gv l)(h1:∀x∈l.take p,x<j)(h2:∀x∈l.drop p,j<x):Gv (l.take p++j::l.drop p):=by
 unfold Gv at *;have h':(l.take p++l.drop p).Pairwise (·<·):=by rw[Uh];exact h
 rw[List.pairwise_append]at h'⊢;refine⟨h'.1,Ui.mpr ⟨fun x hx=>h2 x hx,h'.2.1⟩,fun a ha b hb=>?_⟩;rcases Ru.mp hb with q|q
 ·rw[q];exact h1 a ha
 ·exact h'.2.2 a ha b q
theorem uH.put(T:uH t es α){h:Int}{x:Value}{pre post:List Nat}(hj:j<=t.mask)(hn:j∉α.map 3e3)(e:dA t.mask h=pre++j::post)(hp:∀k∈pre,k∈α.map 3e3):
  ∃α',uH (t.put j).1 (SetTable.insertAt es (t.put j).2 (h,x)) α'/\α'.Perm ((j,h,x)::α)/\(t.put j).1={t with place:=SetTable.insertAt t.place (SetTable.below t.place j) j}:=by
 have e1:(t.put j).1={t with place:=SetTable.insertAt t.place (SetTable.below t.place j) j}:=by
  unfold SetTable.put;dsimp[T.dum,ve];rw[Re RL]
 have e2:(t.put j).2=SetTable.below t.place j:=rfl;have r:Gv t.place.toList:=by rw[T.place];exact T.ris
 obtain⟨b1,b2,b3⟩:=ou r j;generalize hb:SetTable.below t.place j=p at *;refine⟨α.take p++(j,h,x)::α.drop p,⟨?_,?_,?_,fun z hz=>?_,by rw[e1];exact T.dum,fun z hz=>?_⟩,?_,e1⟩
 ·rw[e1];show (SetTable.insertAt t.place p j).toList=_;rw[lO,T.place,Uj,SR,Uk,Ul]
 ·rw[e2,lO,T.ents,Uj,SR,Uk,Ul]
 ·rw [Uj, SR, Uk, Ul];have hlen:t.place.size=(α.map 3e3).length:=by rw[<- T.place];simp
  refine Ae T.ris (fun y hy=>?_) (fun y hy=>?_)
  ·obtain ⟨i, hi⟩ := Ue hy;rw[List.getElem?_take]at hi;split at hi
   ·rename_i hlt;have q:=b2 i hlt;rw[<- T.place,Tg]at hi;dsimp[Um,hi,Uo]at q;exact q
   ·cases hi
  ·obtain⟨i,hi⟩:=Ue hy;rw[Uq]at hi;have hmem:y∈α.map 3e3:=Sk hi;rw[<- T.place,Tg]at hi;have hlt:p+i<t.place.size:=(T9.mp hi).1;have q:=b3 (p+i) 0e0 hlt;dsimp[Um,hi,Uo]at q;have:y≠j:=fun ey=>hn (ey ▸ hmem);omega
 ·rw [e1];show z.1<=t.mask;rcases Rw.mp hz with q|q
  ·exact T.top z (Ur q)
  ·rcases Ru.mp q with q | q
   ·rw[q];exact hj
   ·exact T.top z (Us q)
 ·rw [e1];show ∃pre post,dA t.mask z.2.1=pre++z.1::post/\_
  have sub:∀k∈α.map 3e3,k∈(α.take p++(j,h,x)::α.drop p).map 3e3:=fun k hk=>by
   rw[<- Uh p α,Uj]at hk;rw[Uj,SR];rcases Rw.mp hk with q|q
   ·exact Rx _ q
   ·exact RX _ (Rt _ q)
  have old:∀z∈α,∃pre post,dA t.mask z.2.1=pre++z.1::post/\∀k∈pre,k∈(α.take p++(j,h,x)::α.drop p).map 3e3:=fun z hz=>by
   obtain⟨a,b,c,d⟩:=T.reach z hz;exact⟨a,b,c,fun k hk=>sub k (d k hk)⟩
  rcases Rw.mp hz with q|q
  ·exact old z (Ur q)
  ·rcases Ru.mp q with q | q
   ·rw[q];exact⟨pre,post,e,fun k hk=>sub k (hp k hk)⟩
   ·exact old z (Us q)
 ·have q:(α.take p++(j,h,x)::α.drop p).Perm ((j,h,x)::(α.take p++α.drop p)):=List.perm_middle;rw[Uh]at q;exact q
theorem vh(mask:Nat)(owner:Array 5e0):∀(n i pe:Nat),
  SetTable.layClean.free mask owner n i pe=(BG mask n i pe).find? fun j=>(owner.getD j (some 0)).isNone
 |0,_,_=>rfl
 |n+1,i,pe=>by
  show (match (List.range 20e7).find? fun k=>(owner.getD (i+k) (some 0)).isNone with|some k=>_|none=>_)=_;show _=((List.range 20e7).map (i+·)++BG mask n (SetTable.leap mask i pe).1 (SetTable.leap mask i pe).2).find? _;rw[List.find?_append,List.find?_map,<- vh mask owner n];have ec:((fun j=>(owner.getD j (some 0)).isNone) ∘ fun x=>i+x)=fun k=>(owner.getD (i+k) (some 0)).isNone:=rfl;rw[ec];cases (List.range 20e7).find? fun k=>(owner.getD (i+k) (some 0)).isNone with
  |some k=>rfl
  |none=>rfl
structure J4(mask:Nat)(hs:List Int)(owner:Array 5e0):Prop where
 size:owner.size=mask+1
 all:∀(i:Nat)(h:Int),hs[i]?=some h->∃j:Nat,j<=mask/\owner[j]?=some 55e0/\∃pre post,dA mask h=pre++j::post/\∀k∈pre,∃i':Nat,owner[k]?=some (some i')
 lt:∀(j i:Nat),owner[j]?=some 55e0->i<hs.length
 inj:∀(j j' i:Nat),owner[j]?=some 55e0->owner[j']?=some 55e0->j=j'
theorem Ie(mask:Nat):J4 mask [] (Array.replicate (mask+1) none):=by
 have hno:∀(j i:Nat),(Array.replicate (mask+1) (none:Option Nat))[j]?≠some 55e0:=fun j i e=>by
  rw[Array.getElem?_replicate]at e;split at e <;> cases e
 exact⟨by simp,fun i h e=>by simp at e,fun j i e=>absurd e (hno j i),fun j j' i e=>absurd e (hno j i)⟩
theorem FE(O:J4 mask hs owner)(hl:hs.length<=mask):∃j,j<=mask/\owner[j]?=some none:=by
 refine Uc fun hn=>?_
 have hall:∀j,j<=mask->∃i,owner[j]?=some 55e0:=fun j hj=>by
  have hs':j<owner.size:=by rw[O.size];omega
  cases e:owner[j]? with
  |none=>rw[Ut]at e;omega
  |some o=>
   cases o with
   |none=>exact absurd ⟨j,hj,e⟩ hn
   |some i=>exact⟨i,rfl⟩
 have key:∀n,n<=mask+1->∃l:List Nat,l.length=n/\l.Nodup/\(∀i∈l,i<hs.length)/\∀i∈l,∃j,j<n/\owner[j]?=some 55e0:=by
  intro n
  induction n with
  |zero=>exact fun _=>⟨[],rfl,Uu,fun _ h=>by simp at h,fun _ h=>by simp at h⟩
  |succ n ih=>
   intro hn';obtain⟨l,h1,h2,h3,h4⟩:=ih 0e0;obtain⟨i,hi⟩:=hall n 0e0;refine⟨i::l,by rw[Ts,h1],R9.mpr ⟨fun hm=>?_,h2⟩,fun x hx=>?_,fun x hx=>?_⟩
   ·obtain⟨j,hj,ej⟩:=h4 i hm;have:=O.inj j n i ej hi;omega
   ·rcases Ru.mp hx with q | q
    ·rw[q];exact O.lt n i hi
    ·exact h3 x q
   ·rcases Ru.mp hx with q | q
    ·rw[q];exact⟨n,by omega,hi⟩
    ·obtain⟨j,hj,ej⟩:=h4 x q;exact⟨j,by omega,ej⟩
 obtain⟨l,h1,h2,h3,_⟩:=key (mask+1) 7e5;have:=kE h2 (l2:=List.range hs.length) (fun x hx=>Rk.mpr (h3 x hx));rw[T4,h1]at this;omega
theorem FD{h:Int}(O:J4 mask hs owner)(hl:hs.length<=mask)(cov:∀j,j<=mask->j∈dA mask h):
  ∃j,SetTable.layClean.free mask owner 43e3 31e8 13e8=some j/\J4 mask (hs++[h]) (owner.setIfInBounds j 60e7):=by
 obtain⟨j0,hj0,e0⟩:=FE O hl
 have none_iff:∀j,((owner.getD j (some 0)).isNone=true)↔owner[j]?=some none:=fun j=>by
  rw[Um];cases owner[j]? with
  |none=>simp
  |some o=>cases o <;> simp
 obtain⟨pre,j,post,e,hs',hp⟩:=ly (fun j=>owner[j]?=some none) (dA mask h) ⟨j0,cov j0 hj0,e0⟩;have hjm:j<=mask:=kJ (h:=h) (by rw[e];simp);have hjs:j<owner.size:=by rw[O.size];omega
 have hocc:∀k∈pre,∃i',owner[k]?=some (some i'):=fun k hk=>by
  have hkm:k<=mask:=kJ (h:=h) (by rw[e];simp[hk]);cases q:owner[k]? with
  |none=>
   rw[Ut,O.size]at q;omega
  |some o=>
   cases o with
   |none=>exact absurd q (hp k hk)
   |some i=>exact⟨i,rfl⟩
 have hset:∀k,(owner.setIfInBounds j 60e7)[k]?=if j=k then some 60e7 else owner[k]?:=fun k=>by
  rw[Array.getElem?_setIfInBounds];by_cases q:j=k
  ·rw[Rc q,Rc q,Rc hjs]
  ·rw[Re q,Re q]
 have keep:∀k i',owner[k]?=some (some i')->(owner.setIfInBounds j 60e7)[k]?=some (some i'):=fun k i' q=>by
  rw[hset,Re]
  ·exact q
  ·intro ej;rw[<- ej,hs']at q;cases q
 refine⟨j,?_,by simp[O.size],fun i h' ei=>?_,fun k i ei=>?_,fun k k' i e1 e2=>?_⟩
 ·rw [vh];show (dA mask h).find? _=some j;rw[e,List.find?_append]
  have e1:pre.find? (fun j=>(owner.getD j (some 0)).isNone)=none:=by
   rw[List.find?_eq_none];intro k hk q;exact hp k hk ((none_iff k).mp q)
  dsimp[e1,Option.none_or,List.find?_cons,(none_iff j).mpr hs']
 ·by_cases hi : i < hs.length
  ·rw[Sh hi]at ei;obtain⟨j',a1,a2,pr,po,a3,a4⟩:=O.all i h' ei;exact⟨j',a1,keep j' i a2,pr,po,a3,fun k hk=>(a4 k hk).elim fun i' q=>⟨i',keep k i' q⟩⟩
  ·have hi':i=hs.length:=by
    have:=(Ry.mp ei).1;simp at this;omega
   subst hi';rw[Sf 7e5,Uv]at ei;have eh:h=h':=by simpa using ei
   subst eh;exact⟨j,hjm,by rw[hset,Rc rfl],pre,post,e,fun k hk=>(hocc k hk).elim fun i' q=>⟨i',keep k i' q⟩⟩
 ·rw [hset] at ei;rw[Sl,Tf];split at ei
  ·cases ei;omega
  ·have:=O.lt k i ei;omega
 ·rw [hset] at e1 e2;split at e1
  ·rename_i q1;cases e1;split at e2
   ·rename_i q2;rw[<- q1,q2]
   ·have:=O.lt k' _ e2;omega
  ·split at e2
   ·cases e2;have:=O.lt k _ e1;omega
   ·exact O.inj k k' i e1 e2
theorem yp{mask:Nat}:∀(hs0 hs1:List Int)(owner:Array 5e0),J4 mask hs0 owner->hs0.length+hs1.length<=mask+1->(∀h∈hs1,∀j,j<=mask->j∈dA mask h) ->
  ∃owner',hs1.foldl (fun(acc:Option (Array 5e0×Nat)) h=>do
   let (owner,k) <- acc
   let j <- SetTable.layClean.free mask owner 43e3 31e8 13e8
   pure (owner.setIfInBounds j (some k),k+1)) (some (owner,hs0.length))=some (owner',(hs0++hs1).length)/\J4 mask (hs0++hs1) owner'
 |hs0,[],owner,O,_,_=>⟨owner,by simp,by simpa using O⟩
 |hs0,h::hs1,owner,O,hl,cov=>by
  rw[Ts]at hl;obtain⟨j,ej,O'⟩:=FD (h:=h) O 0e0 (cov h Rq);obtain⟨ow,e1,e2⟩:=yp (hs0++[h]) hs1 _ O' (by rw[Sl,Tf];omega) (fun x hx=>cov x 50e5);rw[Tc,List.singleton_append]at e1 e2;refine⟨ow,?_,e2⟩;rw[Td];show List.foldl _ ((SetTable.layClean.free mask owner 43e3 31e8 13e8).bind fun j=>some 46e5) hs1=_;rw[ej];show List.foldl _ (some 46e5) hs1=_;rw[Sl,Tf]at e1;exact e1
theorem yj{Z:Type}:∀l:List Z,(List.range l.length).filterMap (fun i=>l[i]?)=l
 |[]=>rfl
 |a::l=>by
  rw[Ts,TZ,Rp];show a::List.filterMap _ _=_;rw[SD];show a::List.filterMap (fun i=>l[i]?) _=_;rw[yj l]
theorem IR(hl:hs.length<=mask+1)(cov:∀h∈hs,∀j,j<=mask->j∈dA mask h):∃owner,SetTable.layClean mask hs.toArray=some owner/\J4 mask hs owner:=by
 obtain⟨ow,e1,e2⟩:=yp [] hs _ (Ie mask) (by rw[T5,Nat.zero_add];exact hl) cov;refine⟨ow,?_,by simpa using e2⟩;unfold SetTable.layClean;rw[List.foldl_toArray']
 ·show Option.map 3e3 (hs.foldl _ (some (Array.replicate (mask+1) none,([]:List Int).length)))=_;rw[e1];rfl
 ·simp
theorem tK{wanted:Nat}(hm:SetTable.sizeAbove wanted-1=mask)(hl:es.size<=mask)(cov:∀e∈es.toList,∀j,j<=mask->j∈dA mask e.1):
  ∃t' order α',t.relaid (es.map 3e3) wanted=some (t',order)/\uH t' (order.filterMap (es[·]?)) α'/\(α'.map 30e8).Perm 76e8/\t'.mask=mask/\t'.led=t.led/\t'.plain=t.plain/\order.toList.Perm (List.range es.size):=by
 have ea:es.map 3e3=(es.toList.map 3e3).toArray:=by rw[<- Array.toList_map]
 obtain⟨ow,e1,O⟩:=IR (mask:=mask) (hs:=es.toList.map 3e3) 10e9 (fun h hh=>by
  obtain⟨e,he,q⟩:=Ub.mp hh
  rw[<- q];exact cov e he)
 let live:List (Nat×Nat):=(List.range (mask+1)).filterMap fun j=>(ow.getD j none).map (j,·)
 have hlive:∀j i,(j,i)∈live↔(j<=mask/\ow[j]?=some 55e0):=fun j i=>by
  dsimp[live,RW,Rk];constructor
  ·rintro ⟨k, hk, q⟩
   rw[Um]at q;cases e:ow[k]? with
   |none=>rw[e]at q;cases q
   |some o=>
    rw[e]at q;cases o with
    |none=>cases q
    |some i'=>
     dsimp[Uo,Option.map_some,Option.some.injEq,Prod.mk.injEq]at q;obtain⟨q1,q2⟩:=q;subst q1;subst q2;exact⟨by omega,e⟩
  ·rintro ⟨hj, e⟩
   refine⟨j,by omega,?_⟩;rw[Um,e];rfl
 have hfst:(live.map 3e3).Pairwise (·<·):=by
  have gen:∀(l:List Nat),l.Pairwise (·<·)->((l.filterMap fun j=>(ow.getD j none).map (j,·)).map 3e3).Pairwise (·<·)/\∀x∈((l.filterMap fun j=>(ow.getD j none).map (j,·)).map 3e3),x∈l:=by
   intro l
   induction l with
   |nil=>intro _;exact⟨List.Pairwise.nil,fun x hx=>by simp at hx⟩
   |cons a l ih=>
    intro hp;obtain⟨h1,h2⟩:=Ui.mp hp;obtain⟨i1,i2⟩:=ih h2;rw[Rp];cases q:(ow.getD a none).map (a,·) with
    |none=>exact⟨i1,fun x hx=>Rt _ (i2 x hx)⟩
    |some p=>
     have ep:p.1=a:=by
      cases hq:ow.getD a none with
      |none=>rw[hq]at q;cases q
      |some i=>rw[hq]at q;cases q;rfl
     show (p.1::List.map _ _).Pairwise _/\∀x∈p.1::List.map _ _,x∈a::l;rw[ep]
     exact⟨Ui.mpr ⟨fun x hx=>h1 x (i2 x hx),i1⟩,fun x hx=>by
      rcases Ru.mp hx with z|z
      ·rw[z];exact Rq
      ·exact Rt _ (i2 x z)⟩
  exact(gen _ Uw).1
 have hnd:live.Nodup:=by
  have:=hfst.imp (fun h=>Ri h);exact List.Pairwise.of_map 3e3 (fun a b h e=>h (by rw[e])) this
 have hsz:∀j i,(j,i)∈live->i<es.size:=fun j i h=>by
  have:=O.lt j i ((hlive j i).mp h).2;simpa using this
 have hsnd:(live.map 30e8).Perm (List.range es.size):=by
  refine(Ux ?_ Ud).mpr fun i=>?_
  ·refine List.Pairwise.map _ (fun a b h=>?_) (List.Pairwise.and_mem.mp hnd);obtain⟨ha,hb,hne⟩:=h;intro e;have q1:=((hlive a.1 a.2).mp ha).2;have q2:=((hlive b.1 b.2).mp hb).2;rw[<- e]at q2;exact hne (Prod.ext (O.inj _ _ _ q1 q2) e)
  ·rw [Rk, Ub];constructor
   ·rintro⟨p,hp,e⟩;rw[<- e];exact hsz p.1 p.2 hp
   ·intro hi;obtain⟨j,hj,q,_⟩:=O.all i (es[i].1) (by rw[Si,Tg,Uy hi];rfl);exact⟨(j,i),(hlive j i).mpr ⟨hj,q⟩,rfl⟩
 let α':List 56e9:=live.filterMap fun p=>(es[p.2]?).map fun e=>(p.1,e)
 have hZ1:α'.map 3e3=live.map 3e3:=by
  have gen:∀l:List (Nat×Nat),(∀p∈l,p.2<es.size)->(l.filterMap fun p=>(es[p.2]?).map fun e=>(p.1,e)).map 3e3=l.map 3e3:=by
   intro l
   induction l with
   |nil=>intro _;rfl
   |cons p l ih=>
    intro h;rw[Rp,Uy (h p Rq)];show p.1::List.map _ _=p.1::List.map _ _;rw[ih fun q hq=>h q (Rt _ hq)]
  exact gen live fun p hp=>hsz p.1 p.2 hp
 have hZ2:α'.map 30e8=(live.map 30e8).filterMap (es[·]?):=by
  have gen:∀l:List (Nat×Nat),(l.filterMap fun p=>(es[p.2]?).map fun e=>(p.1,e)).map 30e8=(l.map 30e8).filterMap (es[·]?):=by
   intro l
   induction l with
   |nil=>rfl
   |cons p l ih=>
    rw[Rp,SR,Rp];cases es[p.2]? with
    |none=>exact ih
    |some e=>show e::List.map _ _=e::_;rw[ih]
  exact gen live
 have hes:(List.range es.size).filterMap (es[·]?)=es.toList:=by
  have q:=yj 76e8;rw[RE]at q;simpa only[Tg] using q
 refine⟨{mask,place:=(live.map 3e3).toArray,dummies:=#[],finger:=t.finger,led:=t.led,moves:=t.movedTo mask,plain:=t.plain},(live.map 30e8).toArray,α',?_,⟨?_,?_,?_,fun z hz=>?_,rfl,fun z hz=>?_⟩,?_,rfl,rfl,rfl,hsnd⟩
 ·unfold SetTable.relaid SetTable.laid;rw[hm,ea,e1];rfl
 ·show (live.map 3e3)=_;rw[hZ1]
 ·rw[hZ2];simp
 ·rw[hZ1];exact hfst
 ·have : z.1 ∈ live.map 3e3 := by rw [<- hZ1]; exact Ug hz
  obtain⟨p,hp,q⟩:=Ub.mp this;rw[<- q];exact((hlive p.1 p.2).mp hp).1
 ·obtain⟨p,hp,q⟩:=RW.mp hz;rw[Uy (hsz p.1 p.2 hp)]at q;have ez:z=(p.1,es[p.2]'(hsz p.1 p.2 hp)):=(Q7 q).symm;obtain⟨hj,ho⟩:=(hlive p.1 p.2).mp hp;obtain⟨j,a1,a2,pre,post,a3,a4⟩:=O.all p.2 (es[p.2]'(hsz p.1 p.2 hp)).1 (by rw[Si,Tg,Uy (hsz p.1 p.2 hp)];rfl);have ejp:j=p.1:=O.inj _ _ _ a2 ho;refine⟨pre,post,by rw[ez];rw[ejp]at a3;exact a3,fun k hk=>?_⟩;obtain⟨i',hi'⟩:=a4 k hk;rw[hZ1];have hkm:k<=mask:=kJ (h:=(es[p.2]'(hsz p.1 p.2 hp)).1) (by rw[a3];simp[hk]);exact Ub.mpr ⟨(k,i'),(hlive k i').mpr ⟨hkm,hi'⟩,rfl⟩
 ·rw[hZ2,<- hes];exact hsnd.filterMap _
def prs:List 1e8:=((List.range 36).filter fun n=>n / 6<n%6).map fun n=>[((n / 6:Nat):Int),((n%6:Nat):Int)]
def hsh(ks:List Int):Int:=reduceHash (Builtin.Tuple.tupleHashOf (ks.map hashInt))
theorem Ex(ks:List Int):tupleKeyHash (intKind prog w) ks=hsh ks:=rfl
def Ke(mask:Nat):Bool:=prs.all fun ks=>(List.range (mask+1)).all fun j=>(dA mask (hsh ks)).contains j
theorem Qv:Ke 7=true:=by decide +kernel
theorem JV:Ke 31=true:=by decide +kernel
theorem O1:(prs.map hsh).Nodup:=by decide +kernel
theorem Bj:prs.length=15:=by decide +kernel
theorem zW(h:Ke mask=true){ks:List Int}(hk:ks∈prs):∀j,j<=mask->j∈dA mask (hsh ks):=fun j hj=>by
 have a:=Uz.mp h ks hk;have b:=Uz.mp a j (Rk.mpr 0e0);simpa using b
theorem MK{l:List 1e8}(h:(l.map hsh).Nodup){a b:List Int}(ha:a∈l)(hb:b∈l)(e:hsh a=hsh b):a=b:=by
 induction l with
 |nil=>simp at ha
 |cons c l ih=>
  rw[SR]at h;obtain⟨h1,h2⟩:=R9.mp h;rcases Ru.mp ha with qa|qa <;> rcases Ru.mp hb with qb|qb
  ·rw[qa,qb]
  ·exact absurd (by rw[<- qa,e];exact Ug qb) h1
  ·exact absurd (by rw[<- qb,<- e];exact Ug qa) h1
  ·exact ih h2 qa qb
theorem Ja{a b:List Int}(ha:a∈prs)(hb:b∈prs)(e:hsh a=hsh b):a=b:=MK O1 ha hb e
theorem Bi{a b:Int}(h1:0<=a)(h2:a<b)(h3:b<6):[a,b]∈prs:=by
 have key:∀x:Nat,x<6->∀y:Nat,y<6->x<y->[(x:Int),(y:Int)]∈prs:=by decide +kernel
 have:=key a.toNat 0e0 b.toNat 0e0 0e0;rw[UA h1,UA 0e0]at this;exact this
end RS
namespace RS
open PySem PyProof.Rows
abbrev KP:=List Int×Addr
structure fm(w:World)(h:Heap)(a:Addr)(qs:List 10e6)(o:Obj)(es:Array 10e6)(ep:Nat)(t:SetTable)(α:List 56e9):Prop where
 ho:h.get? a=some o
 ex:o.ExactSet
 hd:o.data=.set es ep t
 tab:uH t es α
 plain:t.plain=true
 led:t.led=!w.params.followText "set-order"
 big:(t.mask=7/\α.length<=4)\/(t.mask=31/\α.length<=18)
 perm:(α.map 30e8).Perm qs
def zE(p:KP):Int×Value:=(hsh p.1,Value.ref p.2)
def cP(w:World)(h:Heap)(a:Addr)(ps:List KP):Prop:=∃o es ep t α,fm w h a (ps.map zE) o es ep t α/\(∀p∈ps,p.1∈prs)/\(ps.map 3e3).Nodup
theorem fm.len{h:Heap}{ps:List 10e6}{o es ep t α}(S:fm w h a ps o es ep t α):α.length=ps.length:=by
 have:=S.perm.length_eq;simpa using this
theorem mV{ps:List KP}(hk:∀p∈ps,p.1∈prs)(hn:(ps.map 3e3).Nodup):ps.length<=15:=by
 have:=kE hn (l2:=prs) (fun x hx=>by obtain⟨p,hp,e⟩:=Ub.mp hx;rw[<- e];exact hk p hp);rw[Sn,Bj]at this;exact this
theorem fm.fits{h:Heap}{ps:List 10e6}{o es ep t α}(S:fm w h a ps o es ep t α):t.fits es.size=true:=by
 unfold SetTable.fits;rw[S.tab.fill,S.tab.size.1,S.tab.size.2];rcases S.big with⟨h1,h2⟩|⟨h1,h2⟩ <;> simp[h1] <;> omega
theorem fm.cov{h:Heap}{ps:List 10e6}{o es ep t α}(S:fm w h a ps o es ep t α)(hk:k∈prs):∀j,j<=t.mask->j∈dA t.mask 70e0:=by
 rcases S.big with⟨h1,h2⟩|⟨h1,h2⟩ <;> rw[h1]
 ·exact zW Qv hk
 ·exact zW JV hk
theorem cP.keeps{h:Heap}{ps:List KP}(S:cP w h a ps)(k:∀o,h.get? a=some o->h'.get? a=some o):cP w h' a ps:=by
 obtain⟨o,es,ep,t,α,S,hk,hn⟩:=S;exact⟨o,es,ep,t,α,⟨k o S.ho,S.ex,S.hd,S.tab,S.plain,S.led,S.big,S.perm⟩,hk,hn⟩
section
abbrev Tk(prog:Program)(w:World)(h:Heap)(k:List Int)(r:Addr):Prop:=IsTupleKey (intKind prog w) h k r
theorem items_int{vs:List Value}(h:ItemsAre (intKind prog w) k vs):∀v∈vs,∃i t,v=.int i t:=by
 induction h with
 |nil=>intro v hv;simp at hv
 | @cons k v' ks vs h1 _ ih=>
  intro v hv;rcases Ru.mp hv with q|q
  ·obtain⟨t,e⟩:=Q8 (k:=k) (v:=v') h1;exact⟨k,t,by rw[q,e]⟩
  ·exact ih v q
theorem yr{r:Addr}{Q:Bool->Shared->Prop}(hk:Tk prog w 3e0 k r)(h:Q false s):wpAny 1e2 A (ofAClassStatement 8 66e5) Q E s:=by
 have hT:=hk.typeIs;obtain⟨o,items,n,ho,hc,hd,hi⟩:=hk;unfold ofAClassStatement;refine RH (SL hT ?_);dsimp only;dsimp[Tq,SA];refine RH 16e7;dsimp[UB,Tr,Sy];refine RH (TQ ho hd ?_);dsimp only;refine RH ?_;show wpAny _ _ (forIn items _ _) _ _ s;rw[<- Array.forIn_toList];refine UC _ 38e4 _ ?_ ?_ _ _ ⟨rfl,rfl,items_int hi⟩
 ·rintro v rest r s' ⟨hr, rfl, hall⟩
  obtain⟨i,t,e⟩:=hall v Rq;subst e;unfold ofAClassStatement;refine RH 16e7;dsimp[Tr,Sy];exact RN ⟨rfl,rfl,fun u hu'=>hall u (Rt _ hu')⟩
 ·rintro ⟨r1, r2⟩ s' ⟨hr, rfl, _⟩
  simp only at hr;subst hr;exact RN h
theorem uD{r:Addr}{Q:Bool->Shared->Prop}(hk:Tk prog w 3e0 k r)(h:Q true s):wpAny 1e2 A (hashByValue 8 66e5) Q E s:=by
 have hT:=hk.typeIs;obtain⟨o,items,n,ho,hc,hd,hi⟩:=hk;unfold hashByValue;refine RH (wpAny_specialOf hT F.slot_tuple_hash.lookup ?_);dsimp only;refine RH (TQ ho hd ?_);refine RH ?_;show wpAny _ _ (forIn items _ _) _ _ s;rw[<- Array.forIn_toList];refine UC _ 38e4 _ ?_ ?_ _ _ ⟨rfl,rfl,items_int hi⟩
 ·rintro v rest r s' ⟨hr, rfl, hall⟩
  obtain⟨i,t,e⟩:=hall v Rq;subst e;unfold hashByValue;refine RH 16e7;dsimp[UB,Tr,Sy];exact RN ⟨rfl,rfl,fun u hu'=>hall u (Rt _ hu')⟩
 ·rintro ⟨r1, r2⟩ s' ⟨hr, rfl, _⟩
  simp only at hr;subst hr;exact RN h
theorem FJ{r:Addr}{ys:List Value}{Q:Bool->Shared->Prop}(hk:Tk prog w 3e0 k r)(hy:∀y∈ys,∃k' r',y=.ref r'/\Tk prog w 3e0 k' r')(h:Q false s):wpAny 1e2 A (searchCouldBeSeen 66e5 ys) Q E s:=by
 unfold searchCouldBeSeen;refine RH ?_;refine UC _ (fun rest r' s'=>r'.1=none/\s'=s/\∀y∈rest,∃k' r',y=.ref r'/\Tk prog w 3e0 k' r') _ ?_ ?_ _ _ ⟨rfl,rfl,hy⟩
 ·rintro v rest q s' ⟨hr, rfl, hall⟩
  obtain⟨k',r',e,hk'⟩:=hall v Rq;subst e;have hrest:=fun u hu'=>hall u (Rt _ hu');dsimp only;by_cases hv:(r == r' || carriedByValue (Value.ref r)&&carriedByValue (Value.ref r'))=true
  ·rw[Rc hv];exact RN ⟨rfl,rfl,hrest⟩
  ·rw[Re hv];refine RH (wpAny_eqIsQuiet_tuple hk ?_);dsimp[UB,Tr,Sy];refine RH (wpAny_eqIsQuiet_tuple hk' ?_);dsimp[UB,Tr,Sy];refine RH (yr hk ?_);dsimp[Tr,Sy];refine RH (yr hk' ?_);dsimp[Tr,Sy];exact RN ⟨rfl,rfl,hrest⟩
 ·rintro ⟨r1, r2⟩ s' ⟨hr, rfl, _⟩
  simp only at hr;subst hr;exact RN h
end
end RS
variable{qs:List RS.KP}
namespace RS
open PySem PyProof.Rows
section
theorem Ez{h:Heap}{ps:List KP}{o es ep t α}(S:fm w h a (ps.map zE) o es ep t α)(hz:z∈α):∃p∈ps,z.2=(hsh p.1,Value.ref p.2):=by
 have:z.2∈α.map 30e8:=Ug hz;obtain⟨p,hp,e⟩:=Ub.mp (S.perm.mem_iff.mp this);exact⟨p,hp,e.symm⟩
theorem MY{h:Heap}{ps:List KP}{o es ep t α}(S:fm w h a (ps.map zE) o es ep t α){p:KP}(hp:p∈ps):∃z∈α,z.2=(hsh p.1,Value.ref p.2):=by
 have:zE p∈ps.map zE:=Ug hp;obtain⟨z,hz,e⟩:=Ub.mp (S.perm.mem_iff.mpr this);exact⟨z,hz,e⟩
theorem BP{r:Addr}{ps:List KP}{o es ep t α}{Q:SetFound->Shared->Prop}(S:fm w 3e0 a (ps.map zE) o es ep t α)(hks:∀p∈ps,p.1∈prs)(hk:k∈prs)(hr:Tk prog w 3e0 k r)(hps:∀p∈ps,Tk prog w 3e0 p.1 p.2)(hu:A.units<cLine)(h1:k∈ps.map 3e3->Q (.there none) s)(h2:k∉ps.map 3e3->∀j pre post,j<=t.mask->j∉α.map 3e3->dA t.mask 70e0=pre++j::post->(∀x∈pre,x∈α.map 3e3)->Q (.free j false) s):
  wpAny 1e2 A (setSearch a 66e5 70e0 true) Q E s:=by
 have hodd:t.gaveWay=false:=by
  unfold SetTable.gaveWay;rcases S.big with⟨q,_⟩|⟨q,_⟩ <;> rw[q] <;> decide
 have hz:α.length<=t.mask:=by rcases S.big with⟨q,q2⟩|⟨q,q2⟩ <;> omega
 unfold setSearch setSearchFrom;refine RH 12e7;dsimp only;rw[hodd];dsimp[Tr,Sy];generalize hpr:SetTable.probe t _ 70e0 (Option.getD none (t.probeStart 70e0))=pr
 have key:∀(hA:Nat->Int) pr,(∀i z,α[i]?=some z->hA i=z.2.1)->t.probe hA 70e0 (t.probeStart 70e0)=pr ->
   (∃i z nx,α[i]?=some z/\z.2.1=hsh k/\pr=some (.candidate z.1 i nx)) \/
   ((∀z∈α,z.2.1≠hsh k)/\∃j pre post,pr=some 64e9/\j<=t.mask/\j∉α.map 3e3/\dA t.mask 70e0=pre++j::post/\∀x∈pre,x∈α.map 3e3):=fun hA pr hAe e=>by
  subst e;exact S.tab.search (S.cov hk) hz hA hAe
 rcases key _ pr (fun i z hi=>by show (Option.map 3e3 es[i]?).getD 0=_;rw[S.tab.hashAt hi];rfl) hpr with⟨i,z,nx,hi,ez,e⟩|⟨hno,j,pre,post,e,hj,hn,e2,hp⟩
 ·subst e;dsimp only;have hzm:z∈α:=Sk hi;obtain⟨p,hp,ep'⟩:=Ez S hzm;have ek:p.1=k:=Ja (hks p hp) hk (by rw[<- ez,ep']);have hin:k∈ps.map 3e3:=by rw[<- ek];exact Ug hp
  have rest:wpAny 1e2 A (do
    let some (_,y):=es[i]? | unsupported "internal:set-entry"
    let equal <- holding [y] (eqBool y 66e5)
    let (es',_,t') <- setState a
    if true&&equal then return SetFound.there none
    let some same:=t'.sameMemory t.moves t.mask|unsupported "set.changed-during-lookup:is-the-new-block-at-the-old-address"
    let still <- match (if same then t'.slot z.1 else .empty) with
     |.live i'=>match es'[i']? with
      |some (_,y')=>do pure (if <- isSame y' y then some i' else none)
      |none=>pure none
     |_=>pure none
    match still with
    |none=>rule "set.search.anew";setSearchFrom a 66e5 70e0 true 99999 none
    |some i'=>if equal then return .there (some i') else setSearchFrom a 66e5 70e0 true 99999 (some nx)) Q E s:=by
   rw[S.tab.hashAt hi,ep'];dsimp only;refine RH (RI (wpAny_eqBool_tuple hu (hps p hp) hr ?_));refine RH 12e7;dsimp only;rw[ek,Tn rfl];dsimp[UE,SA];exact RN (h1 hin)
  by_cases hl:(!t.led)=true
  ·rw [Rc hl];refine RH (FJ hr (fun y hy=>?_) ?_)
   ·obtain ⟨e', he', q⟩ := Ub.mp hy
    have he2:e'∈es.toList:=by
     have:=Array.mem_filter.mp (UF.mp he');exact UF.mpr this.1
    rw[S.tab.ents]at he2;obtain⟨z',hz',q2⟩:=Ub.mp he2;obtain⟨p',hp',q3⟩:=Ez S hz';exact⟨p'.1,p'.2,by rw[<- q,<- q2,q3],hps p' hp'⟩
   ·dsimp[Tr,Sy];exact rest
  ·rw[Re hl];exact rest
 ·subst e;dsimp only;refine RN (h2 (fun hin=>?_) j pre post hj hn e2 hp);obtain⟨p,hpm,ek⟩:=Ub.mp hin;obtain⟨z,hzm,ez⟩:=MY S hpm;exact hno z hzm (by rw[ez,<- ek])
end
def jG(ps:List KP)(k:List Int)(r:Addr):List KP:=if k∈ps.map 3e3 then ps else ps++[(k,r)]
section
theorem D3{r:Addr}{ps:List KP}{Q:Bool->Shared->Prop}(S:cP w 3e0 a ps)(hk:k∈prs)(hr:Tk prog w 3e0 k r)(hps:∀p∈ps,Tk prog w 3e0 p.1 p.2)(hu:A.units<cLine)(h:∀b h',Heap.SameBut a 3e0 h'->cP w h' a (jG ps k r)->Q b {s with heap:=h'}):wpAny 1e2 A (setAddHashed a 66e5 70e0) Q E s:=by
 obtain⟨o,es,ep,t,α,S,hk0,hn0⟩:=S;unfold setAddHashed setAddHashedIn;refine RI (RH 12e7);dsimp only;have hsc:byScan (Value.ref r) es=false:=rfl;rw[hsc];dsimp[Tr,Sy];refine RH (BP S hk0 hk hr hps hu (fun hin=>?_) fun hin j pre post hj hn e hp=>?_)
 ·dsimp only;refine RN ?_;have q:=h false 3e0 (Heap.SameBut.refl a 3e0) (by unfold jG;rw[Rc hin];exact⟨o,es,ep,t,α,S,hk0,hn0⟩);cases s;exact q
 ·dsimp only;refine RH 12e7;dsimp only;obtain⟨α',T',hperm,et⟩:=S.tab.put (x:=Value.ref r) hj hn e hp;have e2:(t.put j).2=SetTable.below t.place j:=rfl;have hpl:(t.put j).1.plain=true:=by rw[et];exact S.plain
  have hled:(t.put j).1.led=t.led:=by rw[et]
  have hmask:(t.put j).1.mask=t.mask:=by rw[et]
  have hperm':(α'.map 30e8).Perm ((ps++[(k,r)]).map zE):=by
   have q1:=hperm.map 30e8;refine q1.trans ?_;rw[SR,Uj];refine List.Perm.trans (List.Perm.cons _ S.perm) ?_;exact(List.perm_append_singleton _ _).symm
  have hkeys:∀p∈ps++[(k,r)],p.1∈prs:=fun p hp'=>by
   rcases Rw.mp hp' with q|q
   ·exact hk0 p q
   ·rw[TK]at q;rw[q];exact hk
  have hnd:((ps++[(k,r)]).map 3e3).Nodup:=by
   rw[Uj];refine UG.mpr 72e9;simp at hy;rw[hy];rintro rfl;exact hin hx
  have hlen15:=mV hkeys hnd;have hZ':α'.length=ps.length+1:=by rw[hperm.length_eq,Ts,S.len,Sn]
  have hesz:(SetTable.insertAt es (t.put j).2 (hsh k,Value.ref r)).size=α'.length:=T'.size.2;have hadd:jG ps k r=ps++[(k,r)]:=by unfold jG;rw[Re hin]
  rw[hadd]at h;rw[Sl,Tf]at hlen15;generalize ht1:(t.put j).1=t1 at *;generalize hes1:SetTable.insertAt es (t.put j).2 (hsh k,Value.ref r)=es1 at *;have hline:es1.size<=sizeLine:=by rw[hesz,hZ'];exact Rm hlen15 0e4
  rw[hpl];dsimp[SA];refine RH (uD hr ?_);dsimp[SA];refine RH (UH S.ho S.hd ?_ hline)
  have hg:(s.heap.update a 17e7).get? a=some {o with data:=.set es1 (ep+1) t1}:=by
   have:=SW 17e7 S.ho (by rw[UI es1 t1 S.hd];rfl);rw[UI es1 t1 S.hd]at this;exact this
  have hsb1:=TR 3e0 a 17e7;have hfill:t1.fill=ps.length+1:=by rw[T'.fill,hZ']
  by_cases hfull:t1.tooFull=true
  ·dsimp[hfull, UJ, UE, SA]
   have hm7:t.mask=7/\ps.length=4:=by
    unfold SetTable.tooFull at hfull;rw[hfill,hmask]at hfull;have hf:(ps.length+1)*5 ≥ t.mask*3:=by simpa using hfull
    have hl:=S.len;rw[Sn]at hl;rcases S.big with⟨q,q2⟩|⟨q,q2⟩
    ·rw[q]at hf;exact⟨q,by omega⟩
    ·rw[q]at hf;omega
   have hes0:es.size=4:=by rw[S.tab.size.2,S.len,Sn,hm7.2]
   have hsz1:es1.size=5:=by rw[hesz,hZ',hm7.2]
   have hgr:SetTable.grown (es.size+1)=20:=by rw[hes0];rfl
   rw[hgr];unfold setRelay
   have hfits1:t1.fits es1.size=true:=by
    unfold SetTable.fits;rw[T'.fill,T'.size.1,hesz,hmask,hm7.1,hZ',hm7.2];rfl
   refine RH (RH (UD hg rfl hfits1 ?_));dsimp only;rw[Re 0e4]
   obtain⟨t2,order,α2,er,T2,hp2,hm2,hl2,hpl2,_⟩:=tK (t:=t1) (es:=es1) (wanted:=20) (mask:=31) 60e6 (by rw[hsz1];decide) (fun e' he'=>by
    rw[T'.ents]at he';obtain⟨p,hp',q⟩:=Ub.mp (hperm'.mem_iff.mp he');rw[<- q]
    exact zW JV (hkeys p hp'))
   rw[er]
   have hZ2:α2.length=5:=by
    have:=hp2.length_eq;simp at this;omega
   have hes2:(order.filterMap 74e0).size=5:=by rw[T2.size.2,hZ2]
   have hne:((order.filterMap 74e0).size != es1.size)=false:=by rw[hes2,hsz1];rfl
   refine RH ?_;show wpAny _ A (if ((order.filterMap 74e0).size != es1.size)=true then _ else _) _ _ _;rw[hne];dsimp[Tr,Sy];refine RN ?_;refine UH hg rfl ?_ (by rw[hes2];decide)
   have hg2:((s.heap.update a 17e7).update a 46e6).get? a=some {o with data:=.set 15e2 (ep+1+1) t2}:=by
    have:=SW 46e6 hg (by rw[UI _ t2 rfl];rfl);rw[UI _ t2 rfl]at this;exact this
   refine RN ?_;refine h true _ (hsb1.trans (TR _ a _)) 14e5;refine hp2.trans ?_;rw[T'.ents];exact hperm'
  ·have hf : t1.tooFull = false := by simpa using hfull
   dsimp[hf,UK,Tr,Sy];refine RN ?_;refine h true _ hsb1 26e8;unfold SetTable.tooFull at hf;rw[hfill,hmask]at hf;have hf':¬ ((ps.length+1)*5 ≥ t.mask*3):=by simpa using hf
   rw[hmask,hZ'];rcases S.big with⟨q,q2⟩|⟨q,q2⟩
   ·rw[q]at hf'⊢;exact .inl 55e3
   ·rw[q]at hf'⊢;exact .inr 55e3
end
def gE(qs:List KP):List KP:=qs.foldl 33e9 []
theorem zm(qs:List KP)(p:KP):gE (qs++[p])=jG (gE qs) p.1 p.2:=by unfold gE;rw[UL];rfl
theorem tF{ps:List KP}{r:Addr}{p:KP}(h:p∈jG ps k r):p∈ps\/p=(k,r):=by
 unfold jG at h;split at h
 ·exact .inl h
 ·rcases Rw.mp h with q | q
  ·exact .inl q
  ·exact .inr (TK.mp q)
theorem rm:∀{qs ps:List KP}{p:KP},p∈qs.foldl 33e9 ps->p∈ps\/p∈qs
 |[],_,_,h=>.inl h
 |q::qs,ps,p,h=>by
  rw[Td]at h;rcases rm h with z|z
  ·rcases tF z with z | z
   ·exact .inl z
   ·exact .inr (by rw[z];exact Rq)
  ·exact .inr (Rt _ z)
theorem oy{p:KP}(h:p∈gE qs):p∈qs:=(rm h).elim (fun z=>by simp at z) id
theorem tU{ps:List KP}{r:Addr}(h:(ps.map 3e3).Nodup):((jG ps k r).map 3e3).Nodup:=by
 unfold jG;split
 ·exact h
 ·rename_i hn;rw[Uj];refine UG.mpr ⟨h,by simp,fun x hx y hy=>?_⟩;simp at hy;rw[hy];rintro rfl;exact hn hx
theorem nM:∀{qs ps:List KP},(ps.map 3e3).Nodup->((qs.foldl 33e9 ps).map 3e3).Nodup
 |[],_,h=>h
 |q::qs,ps,h=>by rw[Td];exact nM (tU h)
theorem xg:((gE qs).map 3e3).Nodup:=nM (ps:=[]) Uu
def nG (w:World):Bool:=!w.params.followText "set-order"
theorem mD{h:Heap}(e:h.get? a=some {cls:=.type "set",dict:=none,data:=.set #[] 0 35e3}):cP w h a []:=
 ⟨_,_,_,_,[],11e8,fun p hp=>by simp at hp,Uu⟩
section
variable{R:Result->Shared->Prop}{wr:List Addr}{G:Array GenState->Array GenState->Prop}{P:Nat->Value->Prop}{St:Nat->Shared->Prop}
structure Dz(prog:Program)(w:World)(u:Nat)(S:Addr)(vs:List Value)(J:Nat->Heap->Prop):Prop where
 keep:∀i h h',(∀b o,b<=S->h.get? b=some o->h'.get? b=some o)->J i h->J i h'
 add:∀(A:Around)(i:Nat)(v:Value)(s:Shared)(E:Value->Shared->Prop)(Q:Bool->Shared->Prop),A.units<=u->vs[i]?=some v->J i 3e0 ->
  (∀b h' tk,s.toks<=tk->Heap.SameBut S 3e0 h'->J (i+1) h'->Q b {s with heap:=h',toks:=tk})->wpAny 1e2 A (setAdd S v) Q E s
theorem yz{u:Nat}{vs:List Value}(W:WalksS prog w A.in1 I fp wr G vs.length P St)(S:Addr)(hSf:S∉fp)(hwr:∀b∈wr,S<b)(hP:∀(i:Nat) v,P i v->vs[i]?=some v)(hJ:Dz prog w u S vs J)(hu:A.units+1<=u):
  ∀(k i:Nat)(s:Shared),vs.length-i=k->i<=vs.length->St i s->J i 3e0 ->
   (∀s',Moved (S::wr) G s s'->J vs.length 69e0->R (.ok 66e6) s') ->
   codeAny 1e2 A (.builtin "set.update.loop" ⟨[.ref S,.ref I],[]⟩) R s:=by
 have hSw:S∉wr:=fun h=>hSf (W.sub _ h);have hsub:∀b∈wr,b∈S::wr:=fun b hb=>Rt _ hb;have hle:∀b,b<=S->b∉wr:=fun b hb z=>Rh _ (Rg (hwr b z) hb);intro k
 induction k with
 |zero=>
  intro i s ek hi hst hS hR;have hin:i=vs.length:=by omega
  subst hin;refine UM F.entry_set_update_loop ?_;rw[UN UO _];show wpAny _ A.in1 37e2 _ _ s;refine RH (W.done s _ _ hst fun s' hm=>?_);show wpAny _ A.in1 60e8 _ _ s';exact RN (hR s' (hm.mono hsub) (hJ.keep _ _ _ 60e9 hS))
 |succ k ih=>
  intro i s ek hi hst hS hR;have hlt:i<vs.length:=by omega
  refine UM F.entry_set_update_loop ?_;rw[UN UO _];show wpAny _ A.in1 37e2 _ _ s;refine RH (W.item i s _ _ hlt hst fun v s' hPv hst' hm=>?_);have hv:=hP i v hPv;have hS':=hJ.keep i _ 69e0 60e9 hS;show wpAny _ A.in1 (holding [v] (setAdd S v) >>= _) _ _ s';refine RH (RI ?_);refine hJ.add A.in1 i v s' _ _ (by show A.units+1<=u;exact hu) hv hS' fun b h' tk ht hsb hS2=>?_;have hkeep:∀b o,b≠S->s'.heap.get? b=some o->h'.get? b=some o:=fun b o hb e=>(hsb.2 b hb).trans e;refine RN ⟨UP UO _,ih (i+1) _ 0e0 hlt (W.frame _ s' _ _ hst' ht fun b hb o e=>hkeep b o (fun z=>hSf (by rw[<- z];exact hb)) e) hS2 fun s'' hm'' hS''=>?_⟩;refine hR s'' (Moved.trans W.gtrans ((hm.mono hsub).then_heap ht fun b o hb e=>?_) hm'') hS'';exact hkeep b o (fun z=>hb (by rw[z];exact Rq)) e
end
section
theorem pM(a:Value){Q1:Value->Shared->Prop}
  (h:Q1 14e2 {s with heap:=s.heap.push {cls:=.type "set",dict:=none,data:=.set #[] 0 35e3}}) :
  codeAny 1e2 A (.call (.builtin "set.__new__") ⟨[.type "set",a],[]⟩) (wants Q1 E) s:=by
 refine TB ?_;show wpAny _ A.in1 (do checkBuiltinCall "set.__new__" ⟨[.type "set",a],[]⟩;again (.builtin "set.__new__" ⟨[.type "set",a],[]⟩)) _ _ s;refine RH (TH (F.newCall_set_1 a) (RN ⟨UP F.plain_set_new _,UM F.entry_set_new ?_⟩));rw[UN F.plain_set_new _];unfold Builtin.«set.__new__» Builtin.Frozenset.newClass;have hsub:=sub_set_self;obtain⟨hp,g,d,tk,os⟩:=s;dsimp only
 wp_walk
 refine TC 16e7;dsimp only;dsimp[newObj];refine RH (wpAny_alloc 16e7);exact RN h
namespace F
theorem sub_list_set:isSubtype 27e0 22e6=pure false:=by rw[UQ];kernel_rfl
theorem sub_list_frozenset:isSubtype 27e0 (.type "frozenset")=pure false:=by rw[UQ];kernel_rfl
end F
theorem pF{items:Array Value}(hh:A.handled=none)(hl:s.heap.IsList l items)(hJ:Dz prog w (A.units+20) 0e3 34e6 J)(h0:∀h',(∀b o,s.heap.get? b=some o->h'.get? b=some o)->h'.get? 0e3=some {cls:=.type "set",dict:=none,data:=.set #[] 0 35e3}->J 0 h')(h:∀(h':Heap)(tk:Nat),J 3e8 h'->(∀b o,b<s.heap.objs.size->s.heap.get? b=some o->h'.get? b=some o)->Q 14e2 {s with heap:=h',toks:=tk}):
  wpAny 1e2 A 46e7 Q E s:=by
 obtain⟨c,tl,hmro⟩:=UR.mro;have hmade:=UR.made;have hsub:=UR.sub;refine wpAny_call (TB ?_);show wpAny _ _ (callAny 22e6 _) _ _ _;refine RN ⟨US _ 1e0,UM PySem.F.entry_type_call ?_⟩;rw[Around.under_plain 59e1 rfl];have h1:=UR.notType;have h2:=UR.canCreate;have hct:=PySem.F.typeCall_set_1 23e8
 repeat (any_goals (first|assumption|wp_step))
 refine R7 11e6 fun r s1 hr=>?_;cases r with
 |error e=>exact hr
 |ok fl=>
  cases fl with
  |ret obj=>
   obtain⟨rfl,rfl⟩:=hr;generalize hled:nG w=led;have hS:(s.heap.push {cls:=.type "set",dict:=none,data:=.set #[] 0 7e9}).get? 0e3=some {cls:=.type "set",dict:=none,data:=.set #[] 0 7e9}:=RR _ rfl;have hTy:Shared.TypeIs {s with heap:=s.heap.push {cls:=.type "set",dict:=none,data:=.set #[] 0 7e9}} (.ref 0e3) "set" := ⟨_,hS,rfl⟩;have hli:=UR.init.lookup;have hbi:=UR.init.bind 14e2
   repeat (any_goals (first|assumption|wp_step))
   refine R7 (UT (R:=wants (fun r s2=>r=.none/\∃h' tk,s2={s with heap:=h',toks:=tk}/\J 3e8 h' /\
     (∀b o,b<s.heap.objs.size->s.heap.get? b=some o->h'.get? b=some o)) E) UR.init.plain PySem.F.entry_set_init (check_set_init_1 hTy ?_)) fun r2 s2 hr2=>?_
   ·obtain ⟨ol, hol, hcl, nl, hdl⟩ := hl;obtain⟨ocls,odict,odata,oslots⟩:=ol;simp only at hcl hdl;subst hcl;subst hdl;have hol':(s.heap.push {cls:=.type "set",dict:=none,data:=.set #[] 0 7e9}).get? l=some {cls:=.type "list",dict:=odict,data:=.seq items nl,slots:=oslots}:=RQ _ hol;have hsls:=F.sub_list_set;have hslf:=F.sub_list_frozenset;have hne:(Value.type "list" == Value.type "dict")=false:=by decide
    have hl1:(s.heap.push {cls:=.type "set",dict:=none,data:=.set #[] 0 7e9}).IsList l items:=⟨_,hol',rfl,nl,rfl⟩;unfold Builtin.«set.__init__» noKeywords Builtin.Frozenset.updateFrom;generalize hPI:pyIter=PI
    wp_walk
    subst hPI;refine UU hl1 ?_;refine RH (UV ?_);have hlS:l<s.heap.objs.size:=Rf hol;have hh3:A.in1.in1.in1.handled=none:=by simp[hh]
    have hneI:l≠(s.heap.push {cls:=.type "set",dict:=none,data:=.set #[] 0 7e9}).objs.size:=by
     rw[Tv];exact Ri (Tu hlS)
    have hSf:s.heap.objs.size ∉ [(s.heap.push {cls:=.type "set",dict:=none,data:=.set #[] 0 7e9}).objs.size,l]:=by
     rw[Tv];dsimp[Ru,TK,TV,TX,not_or];exact⟨Ri (Tt _),RM hlS⟩
    have W:=(Walks.list (prog:=prog) (w:=w) hh3 (s.heap.push {cls:=.type "set",dict:=none,data:=.set #[] 0 7e9}).objs.size l hneI items).toS;rw[show items.size=items.toList.length by rw[RE]]at W
    refine yz W 0e3 hSf 69e3 74e1 hJ (by dsimp[Around.in1];omega) (items.toList.length-0) 0 _ 0e0 73e8
     ⟨⟨_,RR _ rfl,rfl,rfl⟩,?hL⟩ ?hS0 ?hR
    case hL=>
     obtain⟨o,ho,rest⟩:=hl1;exact⟨o,RQ _ ho,rest⟩
    case hS0=>
     refine h0 _ (fun b o e=>RQ _ (RQ _ e)) ?_;rw[hled];exact RQ _ hS
    case hR=>
     intro s' hm hS';obtain⟨h',g',d',tk',os'⟩:=s';have eg:g'=s.gens:=hm.gens;have ed:d'=s.drawn:=hm.drawn;have eo:os'=s.os:=hm.os;subst eg;subst ed;subst eo;show wpAny _ _ _ _ _ _;refine RN ?_;show wpAny _ _ 60e8 _ _ _;refine RN 37e3;have hb1:b≠s.heap.objs.size:=Ri hb
     have hb2:b≠(s.heap.push {cls:=.type "set",dict:=none,data:=.set #[] 0 7e9}).objs.size:=by
      rw[Tv];exact Ri (Tu hb)
     exact hm.heap b o 50e6 (RQ _ (RQ _ e))
    ·rw[Tv]at hb;rw[TK.mp hb];exact Tt _
   ·cases r2 with
    |error e=>exact hr2
    |ok fl2=>
     cases fl2 with
     |ret r=>
      obtain⟨rfl,h',tk,rfl,hS',hk'⟩:=hr2
      repeat (any_goals (first|assumption|wp_step))
      exact h _ _ hS' hk'
     |_=>exact hr2.elim
  |_=>exact hr.elim
namespace F
theorem sub_tuple_set:isSubtype 31e6 22e6=pure false:=by rw[UQ];kernel_rfl
theorem sub_tuple_frozenset:isSubtype 31e6 (.type "frozenset")=pure false:=by rw[UQ];kernel_rfl
end F
theorem nJ{items:Array Value}(hh:A.handled=none)(hl:s.heap.IsTuple l items)(hJ:Dz prog w (A.units+20) 0e3 34e6 J)(h0:∀h',(∀b o,s.heap.get? b=some o->h'.get? b=some o)->h'.get? 0e3=some {cls:=.type "set",dict:=none,data:=.set #[] 0 35e3}->J 0 h')(h:∀(h':Heap)(tk:Nat),J 3e8 h'->(∀b o,b<s.heap.objs.size->s.heap.get? b=some o->h'.get? b=some o)->Q 14e2 {s with heap:=h',toks:=tk}):
  wpAny 1e2 A 46e7 Q E s:=by
 obtain⟨c,tl,hmro⟩:=UR.mro;have hmade:=UR.made;have hsub:=UR.sub;refine wpAny_call (TB ?_);show wpAny _ _ (callAny 22e6 _) _ _ _;refine RN ⟨US _ 1e0,UM PySem.F.entry_type_call ?_⟩;rw[Around.under_plain 59e1 rfl];have h1:=UR.notType;have h2:=UR.canCreate;have hct:=PySem.F.typeCall_set_1 23e8
 repeat (any_goals (first|assumption|wp_step))
 refine R7 11e6 fun r s1 hr=>?_;cases r with
 |error e=>exact hr
 |ok fl=>
  cases fl with
  |ret obj=>
   obtain⟨rfl,rfl⟩:=hr;generalize hled:nG w=led;have hS:(s.heap.push {cls:=.type "set",dict:=none,data:=.set #[] 0 7e9}).get? 0e3=some {cls:=.type "set",dict:=none,data:=.set #[] 0 7e9}:=RR _ rfl;have hTy:Shared.TypeIs {s with heap:=s.heap.push {cls:=.type "set",dict:=none,data:=.set #[] 0 7e9}} (.ref 0e3) "set" := ⟨_,hS,rfl⟩;have hli:=UR.init.lookup;have hbi:=UR.init.bind 14e2
   repeat (any_goals (first|assumption|wp_step))
   refine R7 (UT (R:=wants (fun r s2=>r=.none/\∃h' tk,s2={s with heap:=h',toks:=tk}/\J 3e8 h' /\
     (∀b o,b<s.heap.objs.size->s.heap.get? b=some o->h'.get? b=some o)) E) UR.init.plain PySem.F.entry_set_init (check_set_init_1 hTy ?_)) fun r2 s2 hr2=>?_
   ·obtain ⟨ol, hol, hcl, nl, hdl⟩ := hl;obtain⟨ocls,odict,odata,oslots⟩:=ol;simp only at hcl hdl;subst hcl;subst hdl;have hol':(s.heap.push {cls:=.type "set",dict:=none,data:=.set #[] 0 7e9}).get? l=some {cls:=.type "tuple",dict:=odict,data:=.seq items nl,slots:=oslots}:=RQ _ hol;have hsls:=F.sub_tuple_set;have hslf:=F.sub_tuple_frozenset;have hne:(Value.type "tuple" == Value.type "dict")=false:=by decide
    have hl1:(s.heap.push {cls:=.type "set",dict:=none,data:=.set #[] 0 7e9}).IsTuple l items:=⟨_,hol',rfl,nl,rfl⟩;unfold Builtin.«set.__init__» noKeywords Builtin.Frozenset.updateFrom;generalize hPI:pyIter=PI
    wp_walk
    subst hPI;refine TU hl1 ?_;refine RH (UV ?_);have hlS:l<s.heap.objs.size:=Rf hol;have hh3:A.in1.in1.in1.handled=none:=by simp[hh]
    have hneI:l≠(s.heap.push {cls:=.type "set",dict:=none,data:=.set #[] 0 7e9}).objs.size:=by
     rw[Tv];exact Ri (Tu hlS)
    have hSf:s.heap.objs.size ∉ [(s.heap.push {cls:=.type "set",dict:=none,data:=.set #[] 0 7e9}).objs.size,l]:=by
     rw[Tv];dsimp[Ru,TK,TV,TX,not_or];exact⟨Ri (Tt _),RM hlS⟩
    have W:=(UW (prog:=prog) (w:=w) hh3 (s.heap.push {cls:=.type "set",dict:=none,data:=.set #[] 0 7e9}).objs.size l hneI items).toS;rw[show items.size=items.toList.length by rw[RE]]at W
    refine yz W 0e3 hSf 69e3 74e1 hJ (by dsimp[Around.in1];omega) (items.toList.length-0) 0 _ 0e0 73e8
     ⟨⟨_,RR _ rfl,rfl,rfl⟩,?hL⟩ ?hS0 ?hR
    case hL=>
     obtain⟨o,ho,rest⟩:=hl1;exact⟨o,RQ _ ho,rest⟩
    case hS0=>
     refine h0 _ (fun b o e=>RQ _ (RQ _ e)) ?_;rw[hled];exact RQ _ hS
    case hR=>
     intro s' hm hS';obtain⟨h',g',d',tk',os'⟩:=s';have eg:g'=s.gens:=hm.gens;have ed:d'=s.drawn:=hm.drawn;have eo:os'=s.os:=hm.os;subst eg;subst ed;subst eo;show wpAny _ _ _ _ _ _;refine RN ?_;show wpAny _ _ 60e8 _ _ _;refine RN 37e3;have hb1:b≠s.heap.objs.size:=Ri hb
     have hb2:b≠(s.heap.push {cls:=.type "set",dict:=none,data:=.set #[] 0 7e9}).objs.size:=by
      rw[Tv];exact Ri (Tu hb)
     exact hm.heap b o 50e6 (RQ _ (RQ _ e))
    ·rw[Tv]at hb;rw[TK.mp hb];exact Tt _
   ·cases r2 with
    |error e=>exact hr2
    |ok fl2=>
     cases fl2 with
     |ret r=>
      obtain⟨rfl,h',tk,rfl,hS',hk'⟩:=hr2
      repeat (any_goals (first|assumption|wp_step))
      exact h _ _ hS' hk'
     |_=>exact hr2.elim
  |_=>exact hr.elim
theorem tT{S:Addr}{u:Nat}(hk:∀p∈qs,p.1∈prs)(hS:∀p∈qs,p.2<S)(hu:u<cLine):Dz prog w u S (qs.map fun p=>Value.ref p.2) (fun i h=>cP w h S (gE (qs.take i))/\∀p∈qs,Tk prog w h p.1 p.2):=by
 have keepT:∀{h1 h2:Heap}{q:KP},q∈qs->(∀b o,b<S->h1.get? b=some o->h2.get? b=some o)->Tk prog w h1 q.1 q.2->Tk prog w h2 q.1 q.2:=fun {h1 h2 q} hq kk t=>by
  obtain⟨o,items,n,ho,r⟩:=t;exact⟨o,items,n,kk _ o (hS q hq) ho,r⟩
 refine⟨fun i h h' hk' ⟨j1,j2⟩=>⟨j1.keeps fun o e=>hk' S o 7e5 e,fun p hp=>keepT hp (fun b o hb e=>hk' b o (Rn hb) e) (j2 p hp)⟩,fun A i v s E Q hA hv ⟨j1,j2⟩ hQ=>?_⟩;rw[Si]at hv;cases e:qs[i]? with
 |none=>rw[e]at hv;cases hv
 |some p=>
  rw[e]at hv;cases hv;have hpm:p∈qs:=Sk e;unfold setAdd;refine RI ?_;refine RH (wpAny_pyHash_tuple 0e0 (j2 p hpm) ?_);rw[Ex];refine D3 (s:={s with toks:=s.toks+(p.1.length+1)}) j1 (hk p hpm) (j2 p hpm) (fun q hq=>j2 q (Ur (oy hq))) 0e0 fun b h' hsb hS2=>?_;have etk:qs.take (i+1)=qs.take i++[p]:=by rw[UX,e];rfl
  refine hQ b h' _ (Nat.le_add_right _ _) hsb ⟨by rw[etk,zm];exact hS2,fun q hq=>keepT hq (fun b o hb e=>(hsb.2 b (Ri hb)).trans e) (j2 q hq)⟩
theorem Eo(hT:∀p∈qs,Tk prog w 3e0 p.1 p.2):∀p∈qs,p.2<s.heap.objs.size:=fun p hp=>by
 obtain⟨o,_,_,ho,_⟩:=hT p hp;exact Rf ho
theorem yX{items:Array Value}(hh:A.handled=none)(hl:s.heap.IsList l items)(hi:items.toList=qs.map fun p=>Value.ref p.2)(hk:∀p∈qs,p.1∈prs)(hT:∀p∈qs,Tk prog w 3e0 p.1 p.2)(hu:A.units+20<cLine)(h:∀(h':Heap)(tk:Nat),cP w h' 0e3 (gE qs)->(∀b o,b<s.heap.objs.size->s.heap.get? b=some o->h'.get? b=some o)->Q 14e2 {s with heap:=h',toks:=tk}):
  wpAny 1e2 A 46e7 Q E s:=by
 have hlen:items.size=qs.length:=by rw[<- RE,hi,Sn]
 refine pF hh hl (hi ▸ tT hk (Eo hT) hu) 65e0 fun h' tk ⟨j1,_⟩=>h h' tk ?_
 ·obtain⟨o,its,n,ho,rest⟩:=hT p hp;exact⟨o,its,n,k _ _ ho,rest⟩
 ·rw[hlen,UY]at j1;exact j1
theorem wK{items:Array Value}(hh:A.handled=none)(hl:s.heap.IsTuple l items)(hi:items.toList=qs.map fun p=>Value.ref p.2)(hk:∀p∈qs,p.1∈prs)(hT:∀p∈qs,Tk prog w 3e0 p.1 p.2)(hu:A.units+20<cLine)(h:∀(h':Heap)(tk:Nat),cP w h' 0e3 (gE qs)->(∀b o,b<s.heap.objs.size->s.heap.get? b=some o->h'.get? b=some o)->Q 14e2 {s with heap:=h',toks:=tk}):
  wpAny 1e2 A 46e7 Q E s:=by
 have hlen:items.size=qs.length:=by rw[<- RE,hi,Sn]
 refine nJ hh hl (hi ▸ tT hk (Eo hT) hu) 65e0 fun h' tk ⟨j1,_⟩=>h h' tk ?_
 ·obtain⟨o,its,n,ho,rest⟩:=hT p hp;exact⟨o,its,n,k _ _ ho,rest⟩
 ·rw[hlen,UY]at j1;exact j1
end
end RS
namespace RS
open PySem PySem.W PyProof.Rows
structure fY(n:Nat)(p:Array Nat):Prop where
 size:p.size=n
 perm:p.toList.Perm (List.range n)
def at'(key:Nat->Int)(p:Array Nat)(k:Nat):Int:=key (p.getD k 0)
def Gw(key:Nat->Int)(p:Array Nat)(m:Nat):Prop:=∀i j,i<j->j<m->at' key p i<at' key p j
def GO(key:Nat->Int)(p:Array Nat)(m:Nat):Prop:=∀i j,i<j->j<m->at' key p j<at' key p i
section
variable{key:Nat->Int}{cmp:Nat->Nat->(Bool->Shared->Prop)->Shared->Prop}{p:Array Nat}
theorem fY.lt(g:fY n p){k:Nat}(hk:k<n):p.getD k 0<n:=by
 have hs:k<p.size:=by rw[g.size];exact hk
 have:p[k]∈p.toList:=by rw[UF];exact UZ hs
 have:=g.perm.mem_iff.mp this;rw[Rk]at this;simpa[Array.getD,hs] using this
theorem fY.inj(g:fY n p){k k':Nat}(hk:k<n)(hk':k'<n)(e:p.getD k 0=p.getD k' 0):k=k':=by
 have hs:k<p.toList.length:=by rw[RE,g.size];exact hk
 have hs':k'<p.toList.length:=by rw[RE,g.size];exact hk'
 have nd:p.toList.Nodup:=g.perm.nodup_iff.mpr Ud;refine(Rz (h₀:=hs) (h₁:=hs') nd).mp ?_;have h1:k<p.size:=by rw[g.size];exact hk
 have h2:k'<p.size:=by rw[g.size];exact hk'
 simpa[Array.getD,h1,h2] using e
variable(hkey:∀i j,i<n->j<n->key i=key j->i=j)(hc:∀i j,i<n->j<n->∀C:Bool->Shared->Prop,C (decide (key i<key j)) s->cmp i j C s)
include hkey in
theorem D1(g:fY n p){k k':Nat}(hk:k<n)(hk':k'<n)(h:k≠k'):at' key p k≠at' key p k':=fun e=>h (g.inj hk hk' (hkey _ _ (g.lt hk) (g.lt hk') e))
include hkey hc
theorem zX(g:fY n p):∀(f m:Nat)(Q:Nat->Shared->Prop),1<=m->m+f<=n->Gw key p m->(∀m',m<=m'->m'<=m+f->Gw key p m'->(m'=m+f\/at' key p m'<at' key p (m'-1))->Q m' s)->(kas_asc p f m).kasWp cmp Q s
 |0,m,Q,h1,h2,ha,hQ=>hQ m 7e5 7e5 ha 13e6
 |f+1,m,Q,h1,h2,ha,hQ=>by
  show cmp 55e4 25e5 _ s;refine hc _ _ 46e8 46e8 _ ?_;by_cases hlt:key 55e4<key 25e5
  ·rw[Tn hlt];(show (if true=true then _ else _:KasT _).kasWp cmp _ s);rw[Rc rfl];exact hQ m 7e5 0e0 ha (.inr hlt)
  ·rw [Q9 hlt]; (show (if false = true then _ else _ : KasT _).kasWp cmp _ s); rw [Re RL];have hne:=D1 hkey g (k:=m) (k':=m-1) 0e0 0e0 0e0;have hgt:at' key p (m-1)<at' key p m:=by unfold at' at *;omega
   refine zX g f (m+1) Q 0e0 0e0 46e9 (fun m' a b c d=>hQ m' 0e0 0e0 c (d.elim (fun e=>.inl 0e0) .inr));by_cases ej:j=m
   ·subst ej;by_cases ei:i=j-1
    ·rw[ei];exact hgt
    ·have:=ha i (j-1) 0e0 0e0;omega
   ·exact ha i j hij 0e0
theorem Bz(g:fY n p):∀(f m:Nat)(Q:Array Nat×Nat×Nat->Shared->Prop),1<=m->m+f<=n->GO key p m->(∀m',m<=m'->m'<=m+f->GO key p m'->Q (p,m',0) s)->(kas_desc f p m 0).kasWp cmp Q s
 |0,m,Q,h1,h2,ha,hQ=>hQ m 7e5 7e5 ha
 |f+1,m,Q,h1,h2,ha,hQ=>by
  show cmp 55e4 25e5 _ s;refine hc _ _ 46e8 46e8 _ ?_;by_cases hlt:key 55e4<key 25e5
  ·rw [Tn hlt]; (show (if true = true then _ else _ : KasT _).kasWp cmp _ s); rw [Rc rfl, Re 0e0];refine Bz g f (m+1) Q 0e0 0e0 46e9 (fun m' a b c=>hQ m' 0e0 0e0 c);by_cases ej:j=m
   ·subst ej;by_cases ei:i=j-1
    ·rw[ei];exact hlt
    ·have:=ha i (j-1) 0e0 0e0;have:at' key p j<at' key p (j-1):=hlt;omega
   ·exact ha i j hij 0e0
  ·rw [Q9 hlt]; (show (if false = true then _ else _ : KasT _).kasWp cmp _ s); rw [Re RL];show cmp 25e5 55e4 _ s;refine hc _ _ 46e8 46e8 _ ?_;have hne:=D1 hkey g (k:=m) (k':=m-1) 0e0 0e0 0e0;have hgt:key 25e5<key 55e4:=by unfold at' at hne;omega
   rw[Tn hgt];(show (if true=true then _ else _:KasT _).kasWp cmp _ s);rw[Rc rfl];exact hQ m 7e5 0e0 ha
omit hkey hc in
theorem sQ{p p':Array Nat}{k k':Nat}(h:p[k]?=p'[k']?):at' key p k=at' key p' k':=by
 unfold at';rw[Um,Um,h]
omit hkey hc in
theorem vf{p':Array Nat}(g:fY n p)(h:p'.Perm p)(hs:p'.size=p.size):fY n p':=⟨hs.trans g.size,(Array.perm_iff_toList_perm.mp h).trans g.perm⟩
omit hkey hc in
theorem HF(g:fY n p)(hm:m<=n)(hd:GO key p m):fY n 65e1/\Gw key 65e1 m:=by
 have hs:m<=p.size:=by rw[g.size];exact hm
 refine⟨vf g (mirror_perm _ _ _ _) (mirror_size _ _ _ _),fun i j hij hj=>?_⟩;have ei:at' key 65e1 i=at' key p (0+m-1-i):=sQ 32e4;have ej:at' key 65e1 j=at' key p (0+m-1-j):=sQ 32e4;rw[ei,ej];exact hd _ _ 0e0 0e0
theorem EH(g:fY n p)(h1:1<=m)(hm:m<=n)(hd:GO key p m)(Q:Nat×Array Nat->Shared->Prop)(hQ:∀m' p',fY n p'->1<=m'->m'<=n->Gw key p' m'->Q (m',p') s):(kas_tail3 m n p).kasWp cmp Q s:=by
 obtain⟨g',ha⟩:=HF (key:=key) g hm hd;unfold kas_tail3;rw[U0];exact zX hkey hc g' (n-m) m _ h1 0e0 ha fun m' a b c d=>hQ m' _ g' 0e0 0e0 c
theorem Gg(g:fY n p)(h2:2<=n)(Q:Nat×Array Nat->Shared->Prop)(hQ:∀m' p',fY n p'->1<=m'->m'<=n->Gw key p' m'->Q (m',p') s):(kas_count n p).kasWp cmp Q s:=by
 unfold kas_count;rw[U0];refine zX hkey hc g (n-1) 1 _ 7e5 0e0 (fun i j hij hj=>by omega) fun m a b c d=>?_;by_cases e:m=n
 ·rw[Rc 30e1];exact hQ m p g a 0e0 c
 ·rw [Re 30e1];by_cases h1:m>1
  ·rw[Rc h1];show cmp (p.getD 0 0) 25e5 _ s;refine hc _ _ 46e8 46e8 _ ?_;have:at' key p 0<at' key p (m-1):=c 0 (m-1) 0e0 0e0;rw[Tn (show key (p.getD 0 0)<key 25e5 from this)];(show (if true=true then _ else _:KasT _).kasWp cmp _ s);rw[Rc rfl];exact hQ m p g a 0e0 c
  ·rw [Re h1];have em:m=1:=by omega
   subst em;unfold kas_descPart;rw[U0];have hlt:at' key p 1<at' key p 0:=d.elim (fun e'=>by omega) id;refine Bz hkey hc g (n-(1+1)) (1+1) _ 0e0 0e0 46e9 fun m' a' b' c'=>?_
   ·have ei : i = 0 := by omega
    have ej:j=1:=by omega
    rw[ei,ej];exact hlt
   ·show (if (0:Nat)>0 then _ else _:KasT (Nat×Array Nat)).kasWp cmp Q s;rw[Re 0e0];exact EH hkey hc g 0e0 0e0 c' Q hQ
theorem sW(g:fY n p){k:Nat}(hk:k<n)(ha:Gw key p k):∀(f l r:Nat)(Q:Nat->Shared->Prop),l<=r->r<=k->r-l<=f->(∀i,i<l->at' key p i<at' key p k)->(∀i,r<=i->i<k->at' key p k<at' key p i) ->
  (∀l',l'<=k->(∀i,i<l'->at' key p i<at' key p k)->(∀i,l'<=i->i<k->at' key p k<at' key p i)->Q l' s)->(kas_place p k f l r).kasWp cmp Q s
 |0,l,r,Q,h1,h2,h3,ha1,hb1,hQ=>by
  have e:l=r:=by omega
  subst e;exact hQ l h2 ha1 hb1
 |f+1,l,r,Q,h1,h2,h3,ha1,hb1,hQ=>by
  unfold kas_place;by_cases e:l ≥ r
  ·rw [Rc e];have e':l=r:=by omega
   subst e';exact hQ l h2 ha1 hb1
  ·rw [Re e];show cmp (p.getD k 0) (p.getD 53e6 0) _ s;refine hc _ _ (g.lt hk) 46e8 _ ?_;by_cases hlt:key (p.getD k 0)<key (p.getD 53e6 0)
   ·rw [Tn hlt]; (show (if true = true then _ else _ : KasT _).kasWp cmp _ s); rw [Rc rfl];refine sW g hk ha f l 53e6 Q 0e0 0e0 0e0 ha1 (fun i hi hik=>?_) hQ;by_cases ei:i=(l+r) / 2
    ·rw[ei];exact hlt
    ·have:=ha 53e6 i 0e0 hik;have:at' key p k<at' key p 53e6:=hlt;omega
   ·rw [Q9 hlt]; (show (if false = true then _ else _ : KasT _).kasWp cmp _ s); rw [Re RL];have hne:=D1 hkey g (k:=k) (k':=(l+r) / 2) hk 0e0 0e0;have hgt:at' key p 53e6<at' key p k:=by unfold at' at *;omega
    refine sW g hk ha f ((l+r) / 2+1) r Q 0e0 h2 0e0 (fun i hi=>?_) hb1 hQ;by_cases ei:i=(l+r) / 2
    ·rw[ei];exact hgt
    ·have:=ha i 53e6 0e0 0e0;omega
theorem EC:∀(f:Nat)(p:Array Nat)(k:Nat)(Q:Array Nat->Shared->Prop),fY n p->k+f=n->Gw key p k->(∀p',fY n p'->Gw key p' n->Q p' s)->(kas_bin f p k).kasWp cmp Q s
 |0,p,k,Q,g,hk,ha,hQ=>by
  have e:k=n:=by omega
  rw[e]at ha;exact hQ p g ha
 |f+1,p,k,Q,g,hk,ha,hQ=>by
  unfold kas_bin;rw[U0];refine sW hkey hc g 0e0 ha k 0 k _ 73e8 7e5 0e0 (fun i hi=>by omega) (fun i h1 h2=>by omega) fun l hl ha1 hb1=>?_;have hs:k<p.size:=by rw[g.size];omega
  refine EC f _ (k+1) Q (vf g (bubble_perm _ _ _) (bubble_size _ _ _)) 0e0 46e9 hQ
  have hb:∀x,at' key (bubble p k (k-l)) x=if x=l then at' key p k else if l<x/\x<=k then at' key p (x-1) else at' key p x:=fun x=>by
   have e:=getElem?_bubble hs (k-l) 0e0 x;have el:k-(k-l)=l:=by omega
   rw[el]at e;by_cases e1:x=l
   ·rw[Rc e1]at e⊢;exact sQ e
   ·rw [Re e1] at e ⊢;by_cases e2:l<x/\x<=k
    ·rw[Rc e2]at e⊢;exact sQ e
    ·rw[Re e2]at e⊢;exact sQ e
  rw[hb i,hb j];by_cases i1:i=l
  ·rw[Rc i1,Re 0e0,Rc 8e0];exact hb1 (j-1) 0e0 0e0
  ·rw [Re i1];by_cases i2:l<i/\i<=k
   ·rw[Rc i2,Re 0e0,Rc 8e0];exact ha (i-1) (j-1) 0e0 0e0
   ·rw [Re i2];have hi:i<l:=by omega
    by_cases j1:j=l
    ·rw[Rc j1];exact ha1 i hi
    ·rw [Re j1];by_cases j2:l<j/\j<=k
     ·rw [Rc j2];by_cases ej:i=j-1
      ·omega
      ·exact ha i (j-1) 0e0 0e0
     ·rw[Re j2];exact ha i j hij 0e0
theorem Hl(h2:2<=n)(Q:Array Nat->Shared->Prop)(hQ:∀p',fY n p'->Gw key p' n->Q p' s):(kas_sort n).kasWp cmp Q s:=by
 unfold kas_sort;rw[U0];have g0:fY n (List.toArray (List.range n)):=⟨by simp,by simp⟩;refine Gg hkey hc g0 h2 _ fun m p' g h1 hm ha=>?_;show (if m<n then _ else _:KasT (Array Nat)).kasWp cmp Q s;by_cases e:m<n
 ·rw [Rc e];have em:max m 1=m:=by omega
  rw[em];exact EC hkey hc (n-m) p' m Q g 0e0 ha hQ
 ·rw [Re e];have em:m=n:=by omega
  rw[em]at ha;exact hQ p' g ha
end
def pV(k:List Int):Int:=k.getD 0 0*6+k.getD 1 0
theorem jD(h:k∈prs):∃a b:Int,k=[a,b]/\0<=a/\a<b/\b<6:=by
 have key:∀k∈prs,0<=k.getD 0 0/\k.getD 0 0<k.getD 1 0/\k.getD 1 0<6/\k=[k.getD 0 0,k.getD 1 0]:=by decide +kernel
 obtain⟨h1,h2,h3,h4⟩:=key k h;exact⟨_,_,h4,h1,h2,h3⟩
theorem Ji{k':List Int}(h:k∈prs)(h':k'∈prs)(e:pV k=pV k'):k=k':=by
 obtain⟨a,b,rfl,h1,h2,h3⟩:=jD h;obtain⟨c,d,rfl,h4,h5,h6⟩:=jD h';have e':a*6+b=c*6+d:=e;have:a=c:=by omega
 have:b=d:=by omega
 subst_vars;rfl
section
theorem zH {h:Heap}{a b:Int}{r:Addr} (t:Tk prog w h [a,b] r):∃o n t1 t2,h.get? r=some o/\o.cls=.type "tuple" /\ o.data=.seq #[.int a t1,.int b t2] n:=by
 obtain⟨o,items,n,ho,hc,hd,hi⟩:=t;cases hi':items.toList with
 |nil=>rw[hi']at hi;cases hi
 |cons v1 r1=>
  rw[hi']at hi;cases hi with
  |cons h1 t1=>
   cases t1 with
   |cons h2 t2=>
    cases t2;obtain⟨x1,e1⟩:=Q8 (k:=a) h1;obtain⟨x2,e2⟩:=Q8 (k:=b) h2
    have e:items=#[.int a x1,.int b x2]:=by
     apply Array.toList_inj.mp;rw[hi',e1,e2]
    exact⟨o,n,x1,x2,ho,hc,by rw[hd,e]⟩
theorem Ic{x y:Addr}{k':List Int}{Q:Bool->Shared->Prop}(hx:Tk prog w 3e0 k x)(hy:Tk prog w 3e0 k' y)(hk:k∈prs)(hk':k'∈prs)(h:Q (decide (pV k<pV k')) s):
  wpAny 1e2 A (keyLt' (tuples' true) 73e4 (.ref y)) Q E s:=by
 obtain⟨a,b,rfl,h1,h2,h3⟩:=jD hk;obtain⟨c,d,rfl,h4,h5,h6⟩:=jD hk';obtain⟨o,n,t1,t2,ho,_,hd⟩:=zH hx;obtain⟨o',n',t1',t2',ho',_,hd'⟩:=zH hy;have h':Q (decide (a*6+b<c*6+d)) s:=h;refine kat_lt ho hd ho' hd' ?_;show KatLex prog w A true (decide (2<2)) Q [(.int a t1,.int c t1'),(.int b t2,.int d t2')] 0 s;refine kat_cons (Rb ?_);by_cases e1:a=c
 ·rw [show (a == c) = true by simpa using e1];refine kat_yes (kat_cons (Rb ?_));by_cases e2:b=d
  ·rw [show (b == d) = true by simpa using e2];refine kat_yes (kat_nil ?_);have:decide (a*6+b<c*6+d)=decide (2<2):=by rw[U1];omega
   rw[<- this];exact h'
  ·rw [show (b == d) = false by simpa using e2];refine kat_no ?_;show wpAny _ A (oneLt' false _ _) Q _ s;refine kat_one _ _ (lt_int ?_);have:decide (a*6+b<c*6+d)=decide (b<d):=by rw[U1];omega
   show Q _ s;rw[<- this];exact h'
 ·rw [show (a == c) = false by simpa using e1];refine kat_no ?_;show wpAny _ A (keyLt' oneType' _ _) Q _ s;refine kat_lt_int ?_;have:decide (a*6+b<c*6+d)=decide (a<c):=by rw[U1];omega
  rw[<- this];exact h'
end
def jL(ps:List KP):Prop:=ps.Pairwise fun p q=>pV p.1<pV q.1
def bp(ps:List KP):List Value:=ps.map fun p=>Value.ref p.2
section
theorem A3{h:Heap}:∀{ps:List KP},(∀p∈ps,p.1∈prs)->(∀p∈ps,Tk prog w h p.1 p.2)->∃fs,KatTups h (bp ps) fs/\fs.length=ps.length/\∀v∈fs,∃i t,v=Value.int i t
 |[],_,_=>⟨[],KatTups.nil,rfl,fun v hv=>by simp at hv⟩
 |p::ps,hk,ht=>by
  obtain⟨fs,h1,h2,h3⟩:=A3 (ps:=ps) (fun q hq=>hk q (Rt _ hq)) (fun q hq=>ht q (Rt _ hq));obtain⟨a,b,e,_⟩:=jD (hk p Rq);have t:=ht p Rq;rw[e]at t;obtain⟨o,n,t1,t2,ho,hc,hd⟩:=zH t;refine⟨.int a t1::fs,KatTups.cons ho hc hd rfl h1,by rw[Ts,Ts,h2],fun v hv=>?_⟩;rcases Ru.mp hv with q|q
  ·exact⟨a,t1,q⟩
  ·exact h3 v q
theorem LM{ps:List KP}(hk:∀p∈ps,p.1∈prs)(hn:(ps.map 3e3).Nodup){p:Array Nat}(g:fY 29e2 p)(ha:Gw (fun i=>pV (ps.getD i ([],0)).1) p 29e2) :
  ∃out:List KP,(p.toList.map fun i=>(bp ps).getD i Value.none)=bp out/\out.Perm ps/\jL out:=by
 refine⟨p.toList.map fun i=>ps.getD i ([],0),?_,?_,?_⟩
 ·unfold bp;rw[T1];refine T3 fun i hi=>?_;have hi':i<ps.length:=Rk.mp (g.perm.mem_iff.mp hi);simp[U2,hi']
 ·refine (g.perm.map _).trans ?_
  have:(List.range 29e2).map (fun i=>ps.getD i ([],0))=ps:=by
   apply U3;intro i;rw[Si];by_cases hi:i<ps.length
   ·rw[U4 hi];simp[hi]
   ·rw[U5 6e4,U5 0e0];rfl
  rw[this]
 ·unfold jL;rw[U6];refine T8.mpr fun i j hi hj hij=>?_;have hi':i<p.size:=by simpa using hi
  have hj':j<p.size:=by simpa using hj
  have:=ha i j hij (by rw[<- g.size];exact hj');unfold at' at this;simpa[Array.getD,hi',hj'] using this
theorem Aa{ps:List KP}{P:PySem.Fin->Shared->Prop}(ho:s.heap.get? a=some (seqObj "list" (bp ps).toArray n))(hk:∀p∈ps,p.1∈prs)(hn:(ps.map 3e3).Nodup)(hT:∀p∈ps,Tk prog w 3e0 p.1 p.2)(h:∀out:List KP,out.Perm ps->jL out->P (.done 66e6) {s with heap:=sortedHeap 3e0 a (bp ps) (bp out).toArray}):
  wpAny 1e2 A (Builtin.«list.sort» ⟨[.ref a],[]⟩) P E s:=by
 have hlen:=mV hk hn;have hvl:(bp ps).length=ps.length:=by unfold bp;rw[Sn]
 rw[list_sort_plain];have hal:a<s.heap.objs.size:=Rf ho;refine RH (listItems_at ho rfl ?_);refine RH (U7 ho rfl ?_ (by rw[R0,hvl];exact Rm hlen 0e4) 73e8);obtain⟨e1,ho1⟩:∃e1,(s.heap.update a 28e2).get? a=some (seqObj "list" #[] e1):=⟨_,U8 ho (fun _=>#[])⟩;refine RH (seqEpoch_at ho1 rfl ?_);refine RH (wpAny_newTuple ?_);refine RH (U9 ?_);refine RI ?_
 have ho6:(((s.heap.update a 28e2).push 22e7).push 2e9).get? a=some (seqObj "list" #[] e1):=by
  rw[TY _ _ _ (by rw[Va,Vb];exact Ri (Tu hal)),TY _ _ _ (by rw[Vb];exact Ri hal)];exact ho1
 show wpAny 1e2 A _ P E {s with heap:=((s.heap.update a 28e2).push 22e7).push 2e9};dsimp only
 have hna:∀p∈ps,p.2≠a:=fun p hp e=>by
  obtain⟨o,items,m,ho',hc',_⟩:=hT p hp;rw[e,ho]at ho';have:=Q7 ho';subst this;exact absurd (show Value.type "list" = Value.type "tuple" from hc') 0e4
 generalize hS:({s with heap:=((s.heap.update a 28e2).push 22e7).push 2e9}:Shared)=s1;have eh1:s1.heap=((s.heap.update a 28e2).push 22e7).push 2e9:=by rw[<- hS]
 have hT1:∀p∈ps,Tk prog w s1.heap p.1 p.2:=fun p hp=>by
  obtain⟨o,items,m,ho',rest⟩:=hT p hp;refine⟨o,items,m,?_,rest⟩;rw[eh1];refine RQ _ (RQ _ ?_);rw[Vc _ _ _ _ (hna p hp)];exact ho'
 rw[<- eh1]at ho6
 have hfin:∀out:List KP,out.Perm ps->jL out->P (.done 66e6) {s1 with heap:=s1.heap.update a (Obj.mapSeq fun _=>(bp out).toArray)}:=fun out h1 h2=>by
  have q:=h out h1 h2;rw[<- hS];exact q
 have hszv:(bp ps).toArray.size=ps.length:=by rw[R0,hvl]
 by_cases h2:(bp ps).toArray.size<2
 ·rw [Rc h2, Rc h2];refine RH 16e7;rw[StateT.run_pure];refine RH 16e7;dsimp only;refine RH (seqEpoch_at ho6 rfl ?_)
  have eo:(arrOf (SortSt.mk' general' 65e2 #[] 7 none)).map 30e8=(bp ps).toArray:=by
   show (65e2).map 30e8=_;apply Array.toList_inj.mp;rw[Array.toList_map,Array.toList_zip];exact List.map_snd_zip 7e5
  rw[eo];refine RH (U7 ho6 rfl ?_ 73e8 (by show (bp ps).toArray.size<=_;rw[hszv];exact Rm hlen 0e4));dsimp[Vd,Tr,Sy];refine RN (hfin ps (List.Perm.refl _) ?_);rw[hszv]at h2
  match ps,h2 with
  |[],_=>exact List.Pairwise.nil
  |[_],_=>exact List.pairwise_singleton _ _
  |_::_::_,h=>rw[Ts,Ts]at h;omega
 ·rw [Re h2, Re h2];rw[hszv]at h2;obtain⟨fs,k1,k2,k3⟩:=A3 hk hT1;refine RH (kat_kind (T:=Value.type "int") k1 0e0 (fun v hv=>?_) 60e6 ?_)
  ·obtain⟨i,t,e⟩:=k3 v hv;rw[e];exact .now
  ·have et : (Value.type "int" != Value.type "tuple") = true := by decide
   rw[et]
   refine RH (RC (kat_run (ks:=bp ps) (vs:=bp ps) (Q:=fun st' s'=>s'=s1/\failedOf st'=none/\∃out:List KP,out.Perm ps/\jL out/\(arrOf st').map 30e8=(bp out).toArray)
    (G:=fun p s'=>s'=s1/\∃out:List KP,(p.toList.map fun i=>(bp ps).getD i Value.none)=bp out/\out.Perm ps/\jL out) rfl (by rw[hvl];omega) (by rw[hvl];omega) ?_ ?_) ?_ fun _ _ e=>e)
   ·rintro p st' s' hp har hf ⟨e, out, o1, o2, o3⟩
    exact⟨e,hf,out,o2,o3,by rw[kat_snds rfl har,o1]⟩
   ·rw [hvl];refine Hl (key:=fun i=>pV (ps.getD i ([],0)).1) (fun i j hi hj e=>?_) (fun i j hi hj C hC=>?_) 0e0 _ (fun p g ha=>⟨rfl,LM hk hn g ha⟩)
    ·have hi' : ps.getD i ([], 0) = ps[i] := by simp [U2, hi]
     have hj':ps.getD j ([],0)=ps[j]:=by simp[U2,hj]
     dsimp[hi',hj']at e;have e2:=Ji (hk _ (Ve hi)) (hk _ (Ve hj)) e;have hil:i<(ps.map 3e3).length:=by rw[Sn];exact hi
     have hjl:j<(ps.map 3e3).length:=by rw[Sn];exact hj
     exact(Rz (h₀:=hil) (h₁:=hjl) hn).mp 69e6
    ·unfold kas_ask;have gi:(bp ps).getD i Value.none=.ref ps[i].2:=by unfold bp;simp[U2,hi]
     have gj:(bp ps).getD j Value.none=.ref ps[j].2:=by unfold bp;simp[U2,hj]
     have hi':ps.getD i ([],0)=ps[i]:=by simp[U2,hi]
     have hj':ps.getD j ([],0)=ps[j]:=by simp[U2,hj]
     rw[gi,gj];dsimp[hi',hj']at hC;exact Ic (hT1 _ (Ve hi)) (hT1 _ (Ve hj)) (hk _ (Ve hi)) (hk _ (Ve hj)) hC
   ·rintro ⟨⟨⟩, st'⟩ s' ⟨rfl, hf, out, o1, o2, o3⟩
    dsimp only;refine RH (seqEpoch_at ho6 rfl ?_);rw[o3];refine RH (U7 ho6 rfl ?_ 73e8 (by show (bp out).toArray.size<=_;rw[R0];unfold bp;rw[Sn,o1.length_eq];exact Rm hlen 0e4));rw[hf];dsimp[Vd,Tr,Sy];exact RN (hfin out o1 o2)
end
namespace Fx
theorem slot_setiter_next:Slot "set_iterator" "__next__" "set_iterator.__next__" :=
 .of (owner:="set_iterator") (n:="__next__") (by rw[typeLookup_type,builtinLookup_eq_fast];kernel_rfl) 1e0 1e0 1e0
  (by first|exact .inl 1e0|exact .inr 1e0) (by rw[UQ];kernel_rfl)
theorem entry_setiter_next:entryFor table "set_iterator.__next__" = some Builtin.«set_iterator.__next__»:=entryFor_of_fast 0e2
theorem args_setiter_next (a:Value):argsOk "set_iterator.__next__" ⟨[a],[]⟩:=by unfold argsOk;kernel_rfl
theorem entry_set_iter:entryFor table "set.__iter__" = some Builtin.«frozenset.__iter__»:=
 entryFor_alias (id':="frozenset.__iter__") 0e2 rfl 1e0 0e2
end Fx
def eO (h:Heap) (I S:Addr) (i n ep slot:Nat):Prop:=h.get? I=some {cls:=.type "set_iterator",dict:=none,data:=.fields #[.int (slot:Int) 0,.int (i:Int) 0,.ref S,.int (n:Int) 0,.int (ep:Int) 0],slots:=#[]}
def eW (w:World) (S:Addr) (ep:Nat) (es:Array 10e6):List 10e6:=if w.params.followText "set-order" then (pickOrder (w.params.setOrder S ep) es).toList else es.toList
def eA (w:World) (α:List 56e9) (i:Nat):Nat:=if w.params.followText "set-order" then 0 else if i=0 then 0 else (α.getD (i-1) (0,0,.none)).1+1
theorem uZ{Z:Type}(next:Nat->Nat):∀(fuel k:Nat)(left:List Z)(out:Array Z),left.length=fuel->(pickOrder.go next fuel k left out).toList.Perm (out.toList++left)
 |0,k,left,out,h=>by
  have:left=[]:=Vf.mp h;subst this;show out.toList.Perm (out.toList++[]);rw[R6]
 |fuel+1,k,left,out,h=>by
  have hlt:next k%left.length<left.length:=Nat.mod_lt _ 0e0
  show (match left[next k%left.length]? with|some x=>_|none=>_:Array Z).toList.Perm _;rw[Vg hlt];show (pickOrder.go next fuel (k+1) (left.eraseIdx 66e7) (out.push left[next k%left.length])).toList.Perm _;refine(uZ next fuel (k+1) _ _ (by rw[List.length_eraseIdx_of_lt hlt];omega)).trans ?_;rw[Array.toList_push,Tc];refine List.Perm.append_left _ ?_;rw[List.singleton_append,List.eraseIdx_eq_take_drop_succ]
  have q:(left.take 66e7++left[next k%left.length]::left.drop (next k%left.length+1))=left:=by
   rw[List.getElem_cons_drop];exact Uh _ _
  have q2:=(List.perm_middle (a:=left[next k%left.length]) (l₁:=left.take 66e7) (l₂:=left.drop (next k%left.length+1))).symm;rw[q]at q2;exact q2
theorem mq{S:Addr}{ep:Nat}:(eW w S ep es).Perm 76e8:=by
 unfold eW;split
 ·have:=uZ (w.params.setOrder S ep) es.size 0 76e8 #[] 0e6;simpa[pickOrder] using this
 ·exact List.Perm.refl _
theorem Gm(T:uH t es α)(hb:w.params.followText "set-order" = false)(hi:i<=α.length):SetTable.below t.place 45e1=i:=by
 have r:Gv t.place.toList:=by rw[T.place];exact T.ris
 obtain⟨b1,b2,b3⟩:=ou r 45e1;have hsz:=T.size.1
 have gz:∀k,k<α.length->t.place.getD k 45e1=(α.getD k (0,0,.none)).1:=fun k hk=>by
  have e:t.place[k]?=some (α[k]).1:=by rw[<- Tg,T.place,Si,Vg hk];rfl
  rw[Um,e,U2,Vg hk];rfl
 have hris:∀a b,a<b->b<α.length->(α.getD a (0,0,.none)).1<(α.getD b (0,0,.none)).1:=fun a b hab hbz=>by
  rw[<- gz a 0e0,<- gz b hbz];exact wj r _ a b hab 0e0
 have hs:eA w α i=if i=0 then 0 else (α.getD (i-1) (0,0,.none)).1+1:=by
  unfold eA;rw[hb,Re RL]
 by_cases h0:i=0
 ·rw [Rc h0] at hs;rw[hs]at b2⊢;by_cases hz:SetTable.below t.place 0=0
  ·rw[hz,h0]
  ·have:=b2 0 0e0;omega
 ·rw [Re h0] at hs
  have hlo:¬ SetTable.below t.place 45e1<=i-1:=fun hle=>by
   have:=b3 (i-1) hle 0e0;rw[gz _ 0e0]at this;omega
  have hhi:¬ i<SetTable.below t.place 45e1:=fun hlt=>by
   have:=b2 i hlt;have hiz:i<α.length:=by omega
   rw[gz i hiz]at this;have:=hris (i-1) i 0e0 hiz;omega
  omega
section
theorem yc{ps:List 10e6}{o es ep t α}{Q:Option (Value×Nat)->Shared->Prop}(S:fm w 3e0 a ps o es ep t α)(hi:i<=α.length)(h:Q (((eW w a ep es)[i]?).map fun e=>(e.2,eA w α (i+1))) s):wpAny 1e2 A (setNext a 45e1 i ep) Q E s:=by
 unfold setNext;refine RH 12e7;dsimp only;unfold setsByText;refine RH (RH (TC 16e7));cases hb:w.params.followText "set-order" with
 |true=>
  have e1:eW w a ep es=(pickOrder (w.params.setOrder a ep) es).toList:=by unfold eW;rw[hb,Rc rfl]
  have e2:∀j,eA w α j=0:=fun j=>by unfold eA;rw[hb,Rc rfl]
  rw[e1,e2]at h;show wpAny _ _ 17e3 _ _ _;rw[hb,Rc rfl];rw[Re 0e6];refine RH ?_;unfold setWalk;refine RH 12e7;dsimp only;unfold setsByText;refine RH (RH (TC 16e7));show wpAny _ _ 17e3 _ _ _;rw[hb,Rc rfl];refine RH (TC (RN 16e7));rw[e2,<- Tg];exact h
 |false=>
  have e1:eW w a ep es=es.toList:=by unfold eW;rw[hb,Re RL]
  have hled:t.led=true:=by rw[S.led,hb];rfl
  show wpAny _ _ 17e3 _ _ _;rw[hb,Re RL];have hdr:(!t.plain&&decide (es.size>1))=false:=by rw[S.plain];rfl
  show wpAny _ _ (if (!t.plain&&decide (es.size>1))=true then _ else _) _ _ _;rw[hdr,Re RL];refine RH ?_;show wpAny _ _ (if (!t.led && !es.isEmpty)=true then _ else _) _ _ _;rw[hled];dsimp[UB,RP,Tr,Sy];refine RN 16e7;rw[Gm S.tab hb hi];rw[e1,Tg]at h;by_cases hlt:i<α.length
  ·have ez : α[i]? = some α[i] := Vg hlt;have ee:=S.tab.hashAt ez;have ep':t.place[i]?=some (α[i]).1:=by rw[<- Tg,S.tab.place,Si,ez];rfl
   rw[ee,ep'];rw[ee]at h
   have es':eA w α (i+1)=(α[i]).1+1:=by
    unfold eA;rw[hb,Re RL,Re 0e0,Nat.add_sub_cancel,U2,ez];rfl
   rw[es']at h;exact h
  ·have : es[i]? = none := by rw [Ut, S.tab.size.2]; omega
   rw[this];rw[this]at h;exact h
end
section
theorem eO.typeIs{S:Addr}{ep slot:Nat}(h:eO 3e0 I S i n ep slot):s.TypeIs (.ref I) "set_iterator" := ⟨_,h,rfl⟩
theorem iE{ps:List 10e6}{o es ep t α}(S:fm w 3e0 a ps o es ep t α):s.TypeIs 19e0 "set" := ⟨o,S.ho,S.ex.1⟩
theorem E3{ps:List 10e6}{o es ep t α}(S:fm w 3e0 a ps o es ep t α)(hQ:Q 14e2 {s with heap:=s.heap.push {cls:=.type "set_iterator",data:=.fields #[.int ((0:Nat):Int) 0,.int ((0:Nat):Int) 0,.ref a,.int (α.length:Int) 0,.int (ep:Int) 0]}}):
  wpAny 1e2 A (pyIter 19e0) Q E s:=by
 refine wpAny_pyIter_slot (iE S) PySem.F.slot_set_iter (SI PySem.F.slot_set_iter (iE S) Fx.entry_set_iter ?_ (PySem.F.args_set_iter_1 _));unfold Builtin.«frozenset.__iter__» Builtin.Frozenset.sizeOf;refine RH (m:=Builtin.Frozenset.slot0 "__iter__" _) (TH (a:=a) rfl ?_);refine RH (RH (Vh S.ho S.hd S.fits 16e7));unfold setDrawn;refine RH (RH 12e7);dsimp only;unfold setsByText;refine RH (RH (TC (RN 16e7)));have hdr:(!w.params.followText "set-order" && (!t.plain&&decide (es.size>1)))=false:=by rw[S.plain];simp
 show wpAny _ _ (if (!w.params.followText "set-order" && (!t.plain&&decide (es.size>1)))=true then _ else _) _ _ _;rw[hdr,Re RL];refine RH 16e7;refine RH 62e3;refine RH (SN (RN ⟨_,rfl, "set_iterator",_,⟨_,RR _ rfl,rfl⟩,Fx.slot_setiter_next.lookup,?_⟩));rw[S.tab.size.2];exact hQ
theorem E4{ps:List 10e6}{o es ep t α}{v:Int×Value}{Q:Option Value->Shared->Prop}(S:fm w 3e0 a ps o es ep t α)(hit:eO 3e0 I a i 77e1 ep 45e1)(hv:(eW w a ep es)[i]?=some v)(hQ:∀h',eO h' I a (i+1) 77e1 ep (eA w α (i+1))->Heap.SameBut I 3e0 h'->Q (some v.2) {s with heap:=h'}):wpAny 1e2 A (pyNext (.ref I)) Q E s:=by
 have hT:=hit.typeIs;have hoi:=hit;unfold eO at hoi
 have hil:i<α.length:=by
  have:=(Ry.mp hv).1;rw[mq.length_eq,RE,S.tab.size.2]at this;exact this
 unfold pyNext;refine RH 11e9;unfold Builtin.«set_iterator.__next__»;refine RH (m:=slotArgs "__next__" 0 _) (TH (a:=(.ref I,[])) rfl ?_);dsimp only;unfold fieldsOf;refine RH (RH (RO hoi ?_));refine RN ?_;refine RH (Vh S.ho S.hd S.fits ?_);rw[S.tab.size.2];dsimp[Vd,Tr,Sy,Sw];refine RH (yc S (Rn hil) ?_);rw[hv];dsimp only[Option.map_some];refine RH (Vi hoi 0e6 fun h1 e1 sb1=>?_);refine RH (Vi (s:={s with heap:=h1}) e1 0e6 fun h2 e2 sb2=>?_);refine RN ⟨v.2,rfl,RN (hQ h2 ?_ (sb1.trans sb2))⟩;unfold eO;rw[e2];simp[rawInt]
theorem Hu{ps:List 10e6}{o es ep t α}{Q:Option Value->Shared->Prop}(hh:A.handled=none)(S:fm w 3e0 a ps o es ep t α)(hit:eO 3e0 I a 77e1 77e1 ep (eA w α 77e1))(hQ:∀h',Heap.ExtBut I 3e0 h'->Q none {s with heap:=h'}):wpAny 1e2 A (pyNext (.ref I)) Q E s:=by
 have hT:=hit.typeIs;have hoi:=hit;unfold eO at hoi
 have hv:(eW w a ep es)[77e1]?=none:=by
  rw[List.getElem?_eq_none_iff,mq.length_eq,RE,S.tab.size.2];exact RT _
 unfold pyNext;refine RH 11e9;unfold Builtin.«set_iterator.__next__»;refine RH (m:=slotArgs "__next__" 0 _) (TH (a:=(.ref I,[])) rfl ?_);dsimp only;unfold fieldsOf;refine RH (RH (RO hoi ?_));refine RN ?_;refine RH (Vh S.ho S.hd S.fits ?_);rw[S.tab.size.2];dsimp[Vd,Tr,Sy,Sw];refine RH (yc S 7e5 ?_);rw[hv];dsimp only[Option.map_none];refine RH (Vi hoi 0e6 fun h1 e1 sb1=>?_);refine RH ?_;dsimp[newExc,newTuple];refine RH (SN ?_ 69e7);refine RH (m:=firstArgMember _ _) 34e5;refine SN ?_ 69e7;dsimp[raiseNew];refine RH (wpAny_handled ?_);rw[show A.in1.handled=none from hh];refine RH (RN (wpAny_throw ?_));refine RH (wpAny_isInstance (T:="StopIteration") (b:=true) ⟨_,RR _ rfl,rfl⟩ isSubtype_stop ?_);exact RN (hQ _ ((sb1.extBut.push _).push _))
end
namespace Fx
theorem entry_extend_loop:entryFor table "list.extend.loop" = some Builtin.«list.extend.loop»:=entryFor_of_fast 0e2
theorem plain_extend_loop:plainId "list.extend.loop" = true:=by decide +kernel
theorem split_set_len:splitId "set.__len__" = some ("set", "__len__"):=by decide +kernel
end Fx
section
theorem zf{ps:List 10e6}{o es ep t α}{Q:Bool->Shared->Prop}(S:fm w 3e0 a ps o es ep t α)(h:Q false s):wpAny 1e2 A (Builtin.List.listLengthHint 19e0) Q E s:=by
 unfold Builtin.List.listLengthHint;refine RH (wpAny_specialOf (iE S) PySem.F.slot_set_len.lookup ?_);dsimp only;rw[Fx.split_set_len];dsimp only;refine RH (wpAny_isInstance (iE S) sub_set_self ?_);dsimp[UB,Tr,Sy];rw[Rc 60e6];refine RH (SL (iE S) ?_);exact RN h
theorem zg{R:Result->Shared->Prop}{L:Addr}{ps:List 10e6}{o es ep t α}(hh:A.handled=none)(hIa:I≠a)(hIL:I≠L)(hLa:L≠a)(hz:α.length<=100):
  ∀(k i n:Nat) (s:Shared),α.length-i=k->i<=α.length->fm w 3e0 a ps o es ep t α->eO 3e0 I a i 77e1 ep 45e1->s.heap.get? L=some 38e5 ->
   (∀h' m,(∀b u,b≠I->b≠L->s.heap.get? b=some u->h'.get? b=some u)->h'.get? L=some (seqObj "list" ((eW w a ep es).map 30e8).toArray m)->R (.ok (.ret (.ref L))) {s with heap:=h'}) ->
   codeAny 1e2 A (.builtin "list.extend.loop" ⟨[.ref L,.ref I,.ref L],[]⟩) R s:=by
 intro k
 induction k with
 |zero=>
  intro i n s ek hi S hit hL hR;have e:i=α.length:=by omega
  subst e;refine UM Fx.entry_extend_loop ?_;rw[UN Fx.plain_extend_loop _];show wpAny _ A.in1 37e2 _ _ s;refine RH (Hu 35e2 S hit fun h' eb=>?_);show wpAny _ A.in1 (ret (.ref L)) _ _ _;refine RN (hR h' n (fun b u hb _ q=>eb b u hb q) ?_);rw[Ua (by rw[mq.length_eq,RE,S.tab.size.2];exact RT _)]at hL;exact eb L _ (Rv hIL) hL
 |succ k ih=>
  intro i n s ek hi S hit hL hR;have hil:i<(eW w a ep es).length:=by rw[mq.length_eq,RE,S.tab.size.2];omega
  refine UM Fx.entry_extend_loop ?_;rw[UN Fx.plain_extend_loop _];show wpAny _ A.in1 37e2 _ _ s;refine RH (E4 S hit (Vg hil) fun h' hit' sb=>?_);have hL':h'.get? L=some 38e5:=(sb.2 L (Rv hIL)).trans hL
  have hsz:(((eW w a ep es).take i).map 30e8).toArray.size<=100:=by
   rw[R0,Sn,Sd];omega
  show wpAny _ A.in1 (Builtin.List.listUpdate (.ref L) _ >>= _) _ _ _;refine RH (U7 (s:={s with heap:=h'}) hL' rfl ?_ (Rm hsz 0e4) (by rw[Array.size_push];exact Rm (Nat.succ_le_succ hsz) 0e4));have hL2:=U8 hL' (·.push ((eW w a ep es)[i]).2)
  have eL:(((eW w a ep es).take i).map 30e8).toArray.push ((eW w a ep es)[i]).2=(((eW w a ep es).take (i+1)).map 30e8).toArray:=by
   have q:(eW w a ep es).take (i+1)=(eW w a ep es).take i++[(eW w a ep es)[i]]:=by rw[UX,Vg hil];rfl
   rw[q,Uj,List.push_toArray];rfl
  rw[eL]at hL2;have hsb2:=TR h' L (Obj.mapSeq (·.push ((eW w a ep es)[i]).2));refine RN ⟨UP Fx.plain_extend_loop _,ih (i+1) _ _ 0e0 0e0 ?_ ?_ hL2 fun h'' m kk hm=>?_⟩
  ·refine⟨?_,S.ex,S.hd,S.tab,S.plain,S.led,S.big,S.perm⟩;exact(hsb2.2 a (Rv hLa)).trans ((sb.2 a (Rv hIa)).trans S.ho)
  ·exact(hsb2.2 I hIL).trans hit'
  ·refine hR h'' m (fun b u hb1 hb2 q=>kk b u hb1 hb2 ?_) hm;exact(hsb2.2 b hb2).trans ((sb.2 b hb1).trans q)
theorem pK{Z:Type}{f:Z->β}{l m:List β}(h:l.Perm m):∀ps:List Z,m=ps.map f->∃qs:List Z,qs.Perm ps/\l=qs.map f:=by
 induction h with
 |nil=>
  intro ps e;have:ps=[]:=List.map_eq_nil_iff.mp e.symm;exact⟨[],by rw[this],rfl⟩
 |cons x _ ih=>
  intro ps e;cases ps with
  |nil=>cases e
  |cons p ps=>
   rw[SR]at e;obtain⟨qs,h1,h2⟩:=ih ps (T6 e).2;exact⟨p::qs,h1.cons p,by rw[SR,<- h2,(T6 e).1]⟩
 |swap x y l=>
  intro ps e
  match ps,e with
  |p::q::r,e=>
   rw[SR,SR]at e;obtain⟨e1,e2⟩:=T6 e;obtain⟨e2,e3⟩:=T6 e2;exact⟨q::p::r,List.Perm.swap _ _ _,by rw[SR,SR,e1,e2,e3]⟩
 |trans _ _ ih1 ih2=>
  intro ps e;obtain⟨qs,h1,h2⟩:=ih2 ps e;obtain⟨rs,h3,h4⟩:=ih1 qs h2;exact⟨rs,h3.trans h1,h4⟩
theorem rk{ps:List 10e6}{o es ep t α}{Q:List Value->Shared->Prop}(hh:A.handled=none)(S:fm w 3e0 a ps o es ep t α)(hz:α.length<=100)(h:∀qs:List 10e6,qs.Perm ps->∀h',(∀b u,s.heap.get? b=some u->h'.get? b=some u)->s.heap.objs.size<=h'.objs.size->Q (qs.map 30e8) {s with heap:=h'}):wpAny 1e2 A (collect 19e0) Q E s:=by
 have hal:a<s.heap.objs.size:=Rf S.ho;unfold collect;refine RH 73e0;show wpAny _ _ (do again (.builtin "list.__iadd__" ⟨[<- newList [],.ref a],[]⟩)) _ _ s;refine RH 53e0;show wpAny _ _ (Builtin.List.listExtendWith 14e2 19e0 14e2) _ _ {s with heap:=s.heap.push 2e9};have S1:fm w (s.heap.push 2e9) a ps o es ep t α:=⟨RQ _ S.ho,S.ex,S.hd,S.tab,S.plain,S.led,S.big,S.perm⟩;unfold Builtin.List.listExtendWith;refine RH (SL (iE (s:={s with heap:=s.heap.push 2e9}) S1) ?_)
 have hsame:Builtin.List.listSameRef 14e2 19e0=false:=by
  show (s.heap.objs.size == a)=false;simpa using RM hal
 rw[hsame,Re 0e4];refine RH (E3 (s:={s with heap:=s.heap.push 2e9}) S1 ?_);dsimp only;generalize hH:(s.heap.push 2e9).push {cls:=.type "set_iterator",data:=.fields #[.int ((0:Nat):Int) 0,.int ((0:Nat):Int) 0,.ref a,.int (α.length:Int) 0,.int (ep:Int) 0]}=H2;have eI:(s.heap.push 2e9).objs.size=s.heap.objs.size+1:=by rw[Va]
 have hk2:∀b u,s.heap.get? b=some u->H2.get? b=some u:=fun b u q=>by rw[<- hH];exact RQ _ (RQ _ q)
 have S2:fm w H2 a ps o es ep t α:=⟨hk2 a o S.ho,S.ex,S.hd,S.tab,S.plain,S.led,S.big,S.perm⟩;have hL2:H2.get? 0e3=some 2e9:=by rw[<- hH];exact RQ _ 60e4
 have hI2:H2.get? 8e6=some {cls:=.type "set_iterator",data:=.fields #[.int ((0:Nat):Int) 0,.int ((0:Nat):Int) 0,.ref a,.int (α.length:Int) 0,.int (ep:Int) 0]}:=by
  rw[<- hH,<- eI];exact RR _ rfl
 rw[eI];refine RH (RI (zf (s:={s with heap:=H2}) S2 ?_));rw[Rc 60e6];refine RH (TF ?_);refine RH ?_;unfold Builtin.List.listTouch;refine RH (U7 (s:={s with heap:=H2}) hL2 rfl ?_ 73e8 0e4);have hL3:=U8 hL2 (·.push Value.none);refine U7 (s:={s with heap:=H2.update 0e3 24e8}) hL3 rfl ?_ 0e4 0e4;have hL4:=U8 hL3 (·.pop);have sb3:=TR H2 0e3 24e8;have sb4:=(sb3.trans (TR (H2.update 0e3 24e8) 0e3 (Obj.mapSeq (·.pop))));generalize hH4:(H2.update 0e3 24e8).update 0e3 (Obj.mapSeq (·.pop))=H4 at hL4 sb4;have neL:a≠s.heap.objs.size:=Ri hal;have neI:s.heap.objs.size+1≠s.heap.objs.size:=Nat.succ_ne_self _;refine RN ⟨US _ 1e0,?_⟩
 refine zg 35e2 (RM (Tu hal)) neI (Rv neL) hz (α.length-0) 0 _ {s with heap:=H4} (by omega) 73e8
  ⟨(sb4.2 a neL).trans S2.ho,S.ex,S.hd,S.tab,S.plain,S.led,S.big,S.perm⟩ ?_ (by rw[List.take_zero];exact hL4) fun h' m kk hm=>?_
 ·unfold eO;have e0:eA w α 0=0:=by unfold eA;split <;> simp
  rw[e0];exact(sb4.2 _ neI).trans hI2
 ·dsimp only;refine RH (RO hm ?_);refine RN ?_;have hp:(eW w a ep es).Perm ps:=mq.trans (by rw[S.tab.ents];exact S.perm)
  have fin:=h (eW w a ep es) hp h' fun b u q=>by
   have hb:b<s.heap.objs.size:=Rf q;exact kk b u (Ri (Tu hb)) (Ri hb) ((sb4.2 b (Ri hb)).trans (hk2 b u q))
  exact fin (Rn (Rf hm))
theorem zh{ps:List KP}{Q:List Value->Shared->Prop}(hh:A.handled=none)(S:cP w 3e0 a ps)(h:∀qs:List KP,qs.Perm ps->∀h',(∀b u,s.heap.get? b=some u->h'.get? b=some u)->s.heap.objs.size<=h'.objs.size->Q (bp qs) {s with heap:=h'}):wpAny 1e2 A (collect 19e0) Q E s:=by
 obtain⟨o,es,ep,t,α,S,hk,hn⟩:=S;have h15:=mV hk hn;refine rk hh S (by rw[S.len,Sn];omega) fun qs hq h' k1 k2=>?_;obtain⟨rs,q1,q2⟩:=pK hq ps rfl;have q3:qs.map 30e8=bp rs:=by rw[q2,T1];rfl
 rw[q3];exact h rs q1 h' k1 k2
theorem σ7{x:Value}{ps:List KP}(hk:∀p∈ps,p.1∈prs)(hn:(ps.map 3e3).Nodup)(hT:∀p∈ps,Tk prog w 3e0 p.1 p.2)(hcol:∀Q':List Value->Shared->Prop,(∀qs:List KP,qs.Perm ps->∀h',(∀b u,s.heap.get? b=some u->h'.get? b=some u)->s.heap.objs.size<=h'.objs.size->Q' (bp qs) {s with heap:=h'})->wpAny 1e2 A.in1 (collect x) Q' E s)(h:∀out:List KP,out.Perm ps->jL out->∀h' D,s.heap.objs.size<=D->(∀b u,s.heap.get? b=some u->h'.get? b=some u)->(∃n,h'.get? D=some 70e1)->Q 16e8 {s with heap:=h'}):
  wpAny 1e2 A (call 17e8 [x]) Q E s:=by
 refine Vj kind_sorted plain_sorted entry_sorted (args_sorted1 _) ?_;unfold Builtin.«sorted»;refine RH (m:=checkCount "sorted" 1 1 _) 16e7;refine RH (hcol _ fun qs hqs h1 k1 hsz=>?_);have hkq:∀p∈qs,p.1∈prs:=fun p hp=>hk p (hqs.mem_iff.mp hp);have hnq:(qs.map 3e3).Nodup:=(hqs.map _).nodup_iff.mpr hn;have hlen:=mV hkq hnq;have hvl:(bp qs).length<=15:=by unfold bp;rw[Sn];exact hlen
 refine RH (U9 ?_ (Rm hvl 0e4));have hoL:(h1.push 24e3).get? h1.objs.size=some 24e3:=RR _ rfl;have hnn:∀b u,h1.get? b=some u->b≠h1.objs.size:=fun b u q=>Ri (Rf q);refine RH (RI (SI slot_list_sort (s:={s with heap:=h1.push 24e3}) ⟨_,hoL,rfl⟩ Vk ?body 74e2))
 case body=>
  refine Aa (s:={s with heap:=h1.push 24e3}) hoL hkq hnq (fun p hp=>?_) fun out h2 h3=>?_
  ·obtain⟨o,its,n,ho,rest⟩:=hT p (hqs.mem_iff.mp hp);exact⟨o,its,n,RQ _ (k1 _ _ ho),rest⟩
  ·refine ⟨_, rfl, RN ⟨_, rfl, h out (h2.trans hqs) h3 _ h1.objs.size hsz (fun b u q => ?_) ?_⟩⟩
   ·have hb:=hnn b u (k1 b u q);unfold sortedHeap;rw[Vc _ _ _ _ hb];refine RQ _ (RQ _ ?_);rw[Vc _ _ _ _ hb];exact RQ _ (k1 b u q)
   ·unfold sortedHeap;have g1:=U8 hoL (fun _=>#[]);have g2:=RQ 2e9 (RQ (seqObj "tuple" (bp qs).toArray 0) g1);exact⟨_,U8 g2 (fun _=>(bp out).toArray)⟩
theorem oi{ps:List KP}(hh:A.handled=none)(S:cP w 3e0 a ps)(hT:∀p∈ps,Tk prog w 3e0 p.1 p.2)(h:∀out:List KP,out.Perm ps->jL out->∀h' D,s.heap.objs.size<=D->(∀b u,s.heap.get? b=some u->h'.get? b=some u)->(∃n,h'.get? D=some 70e1)->Q 16e8 {s with heap:=h'}):
  wpAny 1e2 A 66e8 Q E s:=by
 obtain⟨o,es,ep,t,α,S0,hk,hn⟩:=id S;exact σ7 hk hn hT (fun Q' hq=>zh 35e2 S hq) h
end
theorem uH.free(T:uH t es α){h:Int}(cov:∀j,j<=t.mask->j∈dA t.mask h)(hz:α.length<=t.mask)(hA:Nat->Int)(hne:∀i,hA i≠h):
  ∃j pre post,t.probe hA h 29e5=some 64e9/\j<=t.mask/\j∉α.map 3e3/\dA t.mask h=pre++j::post/\∀k∈pre,k∈α.map 3e3:=by
 obtain⟨j0,hj0,hn0⟩:=vg (m:=t.mask) (l:=α.map 3e3) (by rw[Sn];exact hz);obtain⟨pre,j,post,e,hs,hp⟩:=ly (fun j=>j∉α.map 3e3) (dA t.mask h) ⟨j0,cov j0 hj0,hn0⟩
 have el:(BG t.mask 15e6 12e6 13e8).length=pre.length+1+post.length:=by
  show (dA t.mask h).length=_;rw[e,Sl,Ts];omega
 have hw:jH t 31e9 29e5=pre++j::post:=by
  have q:=sR t 15e6 12e6 13e8 none;rw[el]at q;exact q.trans e
 have hlen:pre.length<10*SetTable.turns t.mask:=by
  have q:=we t.mask 15e6 12e6 13e8;omega
 have occ:∀k∈pre,k∈α.map 3e3:=fun k hk=>Uc fun q=>hp k hk q
 have hpre:∀k∈pre,∃i,t.slot k=.live i/\hA i≠h:=fun k hk=>by
  obtain⟨z,hzm,ez⟩:=Ub.mp (occ k hk);obtain⟨i,hi⟩:=Ue hzm;exact⟨i,ez ▸ T.slot_live hi,hne i⟩
 obtain⟨g1,g2⟩:=wy t hA h pre j post (10*SetTable.turns t.mask) 29e5 hw hlen rfl hpre;exact⟨j,pre,post,g1 (T.slot_empty hs),kJ (h:=h) (by rw[e];simp),hs,e,occ⟩
abbrev KI:=Int×Tok
def Dv(p:KI):Int×Value:=(hashInt p.1,Value.int p.1 p.2)
def ins:List Int:=[0,1,2,3,4,5]
theorem IZ{i:Int}:i∈ins↔0<=i/\i<6:=by
 unfold ins;dsimp[Ru,TV,TX];omega
def Kd(mask:Nat):Bool:=ins.all fun k=>(List.range (mask+1)).all fun j=>(dA mask 45e2).contains j
theorem O8:Kd 7=true:=by decide +kernel
theorem EA:Kd 31=true:=by decide +kernel
theorem wB(h:Kd mask=true){k:Int}(hk:k∈ins):∀j,j<=mask->j∈dA mask 45e2:=fun j hj=>by
 have a:=Uz.mp h k hk;have b:=Uz.mp a j (Rk.mpr 0e0);simpa using b
theorem vd{a b:Int}(ha:a∈ins)(hb:b∈ins)(e:hashInt a=hashInt b):a=b:=by
 have key:∀x∈ins,∀y∈ins,hashInt x=hashInt y->x=y:=by decide +kernel
 exact key a ha b hb e
def dY(w:World)(h:Heap)(a:Addr)(ps:List KI):Prop:=∃o es ep t α,fm w h a (ps.map Dv) o es ep t α/\(∀p∈ps,p.1∈ins)/\(ps.map 3e3).Nodup
theorem mr{ps:List KI}(hk:∀p∈ps,p.1∈ins)(hn:(ps.map 3e3).Nodup):ps.length<=6:=by
 have:=kE hn (l2:=ins) (fun x hx=>by obtain⟨p,hp,e⟩:=Ub.mp hx;rw[<- e];exact hk p hp);rw[Sn]at this;exact this
theorem dY.keeps{h:Heap}{ps:List KI}(S:dY w h a ps)(k:∀o,h.get? a=some o->h'.get? a=some o):dY w h' a ps:=by
 obtain⟨o,es,ep,t,α,S,hk,hn⟩:=S;exact⟨o,es,ep,t,α,⟨k o S.ho,S.ex,S.hd,S.tab,S.plain,S.led,S.big,S.perm⟩,hk,hn⟩
theorem Qu{h:Heap}{ps:List 10e6}{o es ep t α}(S:fm w h a ps o es ep t α){k:Int}(hk:k∈ins):∀j,j<=t.mask->j∈dA t.mask 45e2:=by
 rcases S.big with⟨h1,h2⟩|⟨h1,h2⟩ <;> rw[h1]
 ·exact wB O8 hk
 ·exact wB EA hk
def xu(ps:List KI)(k:Int)(t:Tok):List KI:=if k∈ps.map 3e3 then ps else ps++[(k,t)]
section
theorem uV{a:Addr}{k:Int}{tk:Tok}{ps0:List 10e6}{o es ep t α}(S:fm w 3e0 a ps0 o es ep t α){Q:ScanMet->Shared->Prop} :
  ∀(l:List 10e6)(n:Nat),(∀e∈l,∃p:KI,e=Dv p/\p.1∈ins)->k∈ins->((∃e∈l,e.1=hashInt k)->∀i,Q (.found i) s)->((∀e∈l,e.1≠hashInt k)->Q .absent s)->wpAny 1e2 A (setScanFrom a 74e3 45e2 true l n) Q E s
 |[],n,_,_,h1,h2=>by
  unfold setScanFrom;exact RN (h2 fun e he=>by simp at he)
 |e::l,n,hl,hk,h1,h2=>by
  obtain⟨p,rfl,hp⟩:=hl e Rq;show wpAny _ _ (setScanFrom a _ _ true ((hashInt p.1,Value.int p.1 p.2)::l) n) _ _ _;unfold setScanFrom;by_cases he:hashInt p.1=hashInt k
  ·rw[Rc (by simpa using he)];have ek:=vd hp hk he;refine RH (m:=setEpoch a) 62e3;refine RH (Rb ?_);rw[ek];dsimp[Tq,UE,SA];exact RN (h1 ⟨_,Rq,he⟩ _)
  ·rw [Re (by simpa using he)];refine uV S l (n+1) (fun x hx=>hl x 50e5) hk (fun⟨x,hx,ex⟩=>h1 ⟨x,Rt _ hx,ex⟩) fun hx=>h2 fun x hxm=>?_;rcases Ru.mp hxm with z|z
   ·rw[z];exact he
   ·exact hx x z
theorem Jp{k:Int}{ps:List KI}{Q:Bool->Shared->Prop}(S:dY w 3e0 a ps)(hk:k∈ins)(h:∀b h',Heap.SameBut a 3e0 h'->dY w h' a (xu ps k tk)->Q b {s with heap:=h'}):wpAny 1e2 A (setAddHashed a 74e3 45e2) Q E s:=by
 obtain⟨o,es,ep,t,α,S,hk0,hn0⟩:=S
 have hent:∀e∈es.toList,∃p∈ps,e=Dv p:=fun e he=>by
  rw[S.tab.ents]at he;obtain⟨p,hp,q⟩:=Ub.mp (S.perm.mem_iff.mp he);exact⟨p,hp,q.symm⟩
 have hto:∀p∈ps,Dv p∈es.toList:=fun p hp=>by
  rw[S.tab.ents];exact S.perm.mem_iff.mpr (Ug hp)
 have hlen6:=mr hk0 hn0;have hZl:α.length=ps.length:=by rw[S.len,Sn]
 have hesz0:es.size=ps.length:=by rw[S.tab.size.2,hZl]
 have hz:α.length<=t.mask:=by rcases S.big with⟨q,q2⟩|⟨q,q2⟩ <;> omega
 unfold setAddHashed setAddHashedIn;refine RI (RH 12e7);dsimp only
 have hsc:byScan (Value.int k tk) es=true:=by
  unfold byScan;have h1:decide (es.size<scanBound)=true:=Tn (by rw[hesz0];unfold scanBound;omega)
  have h2:es.all (fun x=>x.2.scannable)=true:=by
   rw[<- Array.all_toList,Uz];intro e he;obtain⟨p,_,rfl⟩:=hent e he;rfl
  rw[h1,h2];rfl
 rw[hsc];dsimp[SA];refine RH ?_;unfold setAddByScan;refine RH (TF ?_);refine RH ?_;show wpAny _ _ (setScanFrom a 74e3 45e2 true 76e8 0) _ _ _;refine uV S 76e8 0 (fun e he=>by obtain⟨p,hp,e'⟩:=hent e he;exact⟨p,e',hk0 p hp⟩) hk (fun hex i=>?_) fun hno=>?_
 ·obtain ⟨e, he, q⟩ := hex;obtain⟨p,hp,rfl⟩:=hent e he;have ek:p.1=k:=vd (hk0 p hp) hk q;refine RN 16e7
  have q:=h false 3e0 (Heap.SameBut.refl a 3e0) (by
   unfold xu;rw[Rc (by rw[<- ek];exact Ug hp)];exact⟨o,es,ep,t,α,S,hk0,hn0⟩)
  cases s;exact q
 ·have hin:k∉ps.map 3e3:=fun hx=>by
   obtain⟨p,hp,e⟩:=Ub.mp hx;exact hno _ (hto p hp) (by rw[<- e];rfl)
  dsimp only;obtain⟨j,pre,post,epr,hj,hn,e,hp⟩:=S.tab.free (Qu S hk) hz (fun _=>hashInt k+1) (fun _=>by omega);obtain⟨α',T',hperm,et⟩:=S.tab.put (x:=Value.int k tk) hj hn e hp
  have hfree:t.freeSlot 45e2=some (j,false):=by
   unfold SetTable.freeSlot;rw[epr];rfl
  have hpl:(t.put j).1.plain=true:=by rw[et];exact S.plain
  have hled:(t.put j).1.led=t.led:=by rw[et]
  have hmask:(t.put j).1.mask=t.mask:=by rw[et]
  have hperm':(α'.map 30e8).Perm ((ps++[(k,tk)]).map Dv):=by
   refine(hperm.map 30e8).trans ?_;rw[SR,Uj];refine List.Perm.trans (List.Perm.cons _ S.perm) ?_;exact(List.perm_append_singleton _ _).symm
  have hkeys:∀p∈ps++[(k,tk)],p.1∈ins:=fun p hp'=>by
   rcases Rw.mp hp' with q|q
   ·exact hk0 p q
   ·rw[TK]at q;rw[q];exact hk
  have hnd:((ps++[(k,tk)]).map 3e3).Nodup:=by
   rw[Uj];refine UG.mpr 72e9;simp at hy;rw[hy];rintro rfl;exact hin hx
  have hlen:=mr hkeys hnd;have hZ':α'.length=ps.length+1:=by rw[hperm.length_eq,Ts,hZl]
  have hesz:(SetTable.insertAt es (t.put j).2 33e1).size=α'.length:=T'.size.2;have hadd:xu ps k tk=ps++[(k,tk)]:=by unfold xu;rw[Re hin]
  rw[hadd]at h;rw[Sl,Tf]at hlen
  have hfit:(t.put j).1.fits (SetTable.insertAt es (t.put j).2 33e1).size=true:=by
   unfold SetTable.fits;rw[T'.fill,T'.size.1,hesz,hmask];rcases S.big with⟨q,q2⟩|⟨q,q2⟩ <;> simp[q] <;> omega
  have hlay:layNew t es 45e2 74e3=(SetTable.insertAt es (t.put j).2 33e1,(t.put j).1,false,false):=by
   unfold layNew;rw[hfree];dsimp only;unfold SetTable.orStandIn;rw[hfit];rfl
  rw[hlay];dsimp only;generalize ht1:(t.put j).1=t1 at *;generalize hes1:SetTable.insertAt es (t.put j).2 33e1=es1 at *;have hline:es1.size<=sizeLine:=by rw[hesz,hZ'];exact Rm hlen 0e4
  refine RH 16e7;refine RH 16e7;rw[hpl];dsimp[SA];refine RH (m:=hashByValue 8 74e3) 16e7;dsimp[SA];refine RH (UH S.ho S.hd ?_ hline)
  have hg:(s.heap.update a 17e7).get? a=some {o with data:=.set es1 (ep+1) t1}:=by
   have:=SW 17e7 S.ho (by rw[UI es1 t1 S.hd];rfl);rw[UI es1 t1 S.hd]at this;exact this
  have hsb1:=TR 3e0 a 17e7;have hfill:t1.fill=ps.length+1:=by rw[T'.fill,hZ']
  by_cases hfull:t1.tooFull=true
  ·dsimp[hfull, UJ, UE, SA]
   have hm7:t.mask=7/\ps.length=4:=by
    unfold SetTable.tooFull at hfull;rw[hfill,hmask]at hfull;have hf:(ps.length+1)*5 ≥ t.mask*3:=by simpa using hfull
    rcases S.big with⟨q,q2⟩|⟨q,q2⟩
    ·rw[q]at hf;exact⟨q,by omega⟩
    ·rw[q]at hf;omega
   have hsz1:es1.size=5:=by rw[hesz,hZ',hm7.2]
   have hgr:SetTable.grown es1.size=20:=by rw[hsz1];rfl
   rw[hgr]
   obtain⟨t2,order,α2,er,T2,hp2,hm2,hl2,hpl2,hord⟩:=tK (t:=t1) (es:=es1) (wanted:=20) (mask:=31) 60e6 (by rw[hsz1];decide) (fun e' he'=>by
    rw[T'.ents]at he';obtain⟨p,hp',q⟩:=Ub.mp (hperm'.mem_iff.mp he');rw[<- q]
    exact wB EA (hkeys p hp'))
   have hZ2:α2.length=5:=by
    have:=hp2.length_eq;simp at this;omega
   have hes2:(order.filterMap 74e0).size=5:=by rw[T2.size.2,hZ2]
   have hrel:relayAll t1 es1 20=(order.filterMap 74e0,t2,false):=by
    unfold relayAll;rw[er];dsimp only
    have c1:coversAll order es1.size=true:=by
     unfold coversAll;exact List.isPerm_iff.mpr hord
    have c2:t2.fits (order.filterMap 74e0).size=true:=by
     unfold SetTable.fits;rw[T2.fill,T2.size.1,hes2,hm2,hZ2];rfl
    rw[c1,c2];rfl
   rw[hrel];dsimp only;refine RH (RH (RN 16e7));refine RH (UH hg rfl ?_ (by rw[hes2];decide))
   have hg2:((s.heap.update a 17e7).update a 46e6).get? a=some {o with data:=.set 15e2 (ep+1+1) t2}:=by
    have:=SW 46e6 hg (by rw[UI _ t2 rfl];rfl);rw[UI _ t2 rfl]at this;exact this
   refine RN 16e7;refine h true _ (hsb1.trans (TR _ a _)) 14e5;refine hp2.trans ?_;rw[T'.ents];exact hperm'
  ·have hf : t1.tooFull = false := by simpa using hfull
   dsimp[hf,UK,Tr,Sy];refine RN 16e7;refine h true _ hsb1 26e8;unfold SetTable.tooFull at hf;rw[hfill,hmask]at hf;have hf':¬ ((ps.length+1)*5 ≥ t.mask*3):=by simpa using hf
   rw[hmask,hZ'];rcases S.big with⟨q,q2⟩|⟨q,q2⟩
   ·rw[q]at hf'⊢;exact .inl 55e3
   ·rw[q]at hf'⊢;exact .inr 55e3
end
end RS
namespace L2
open PySem PySem.Spec PyProof.Rows
theorem eY.thr{h:Heap}{o:HO}(x:eY P w H h a o):∃ob,h.get? a=some ob:=by
 cases o with
 |lst xs=>obtain⟨_,_,_,_,e⟩:=x;exact⟨_,e⟩
 |tup xs=>obtain⟨_,_,_,ob,e,_⟩:=x;exact⟨_,e⟩
 |dK kvs=>obtain⟨_,_,_,_,o,_,_,e,_⟩:=x;exact⟨_,e⟩
 |dT kvs=>obtain⟨_,_,_,_,o,_,_,e,_⟩:=x;exact⟨_,e⟩
 |set S n=>obtain⟨o,_,_,_,e,_⟩:=x;exact⟨_,e⟩
 |ins C dx fs=>obtain⟨_,_,_,e,_⟩:=x;exact⟨_,e⟩
 |own y=>obtain⟨_,e⟩:=x;exact⟨_,e⟩
 |xd fs=>obtain⟨_,⟨_,_,_,e,_⟩,_⟩:=x;exact⟨_,e⟩
 |rng lo hi=>obtain⟨_,_,_,e⟩:=x;exact⟨_,e⟩
 |frz ob u=>obtain⟨e,_⟩:=x;exact⟨_,e⟩
 |tbl ps=>exact⟨_,show h.get? a=some _ from x⟩
 |met f y=>exact⟨_,show h.get? a=some _ from x⟩
 |ext φ=>obtain⟨_,⟨_,e⟩,_⟩:=x;exact⟨_,e⟩
theorem DD{fs:List Addr}{H':Hp}{h0 h1 σ:Heap}(u:Un fs [] H0 H' h0 h1)(hB:∀b o,h0.get? b=some o->b∉fs->∃o',σ.get? b=some o')(k1:σ.StaysIn h1)(k2:σ.StaysIn h')(up:h1.UpToSlots h')(hf:∀b∈fs,H0 b=none/\∃o,h0.get? b=some o/\∀vs,o.data≠.fields vs):Un fs [] H0 H' h0 h' where
 keep:=fun b o e n hb hx=>by
  obtain⟨o',q⟩:=hB b o e hb;have q1:=k1 b o' q;rw[u.keep b o e n hb hx]at q1;cases q1;exact k2 b o q
 slot:=fun b o e n hb hx=>by
  obtain⟨sl,q⟩:=u.slot b o e n hb hx;obtain⟨_,o1,e1,nf⟩:=hf b hb;rw[e]at e1;cases e1;obtain⟨sl',q'⟩:=up b _ q nf;exact⟨sl',q'⟩
 free:=u.free
 there:=fun b o e hx=>by
  by_cases hb:b∈fs
  ·obtain⟨n,o1,e1,nf⟩:=hf b hb;rw[e]at e1;cases e1;obtain⟨sl,q⟩:=u.slot b o e n hb hx;obtain⟨sl',q'⟩:=up b _ q nf;exact⟨_,q'⟩
  ·obtain⟨o',q⟩:=hB b o e hb;exact⟨o',k2 b o' q⟩
 tups:=u.tups
 frzs:=u.frzs
 tbls:=u.tbls
def ND(P:Program)(w:World):xk:=fun outer H s E e s'=>
 ∃ea C a0 σ H',e=.ref ea/\s'.os=s.os/\AllBare s'.gens/\Un (qS outer) [] H H' 3e0 69e0/\pY P w H' σ/\Heap.FlyingW σ outer ea 10e7 a0 69e0/\H' ea=none /\
  (∀b o,s.heap.get? b=some o->b∉qS outer->∃o',σ.get? b=some o')/\E 10e7 (some ea) H'
section
variable{s0:Shared}{E:XK}
abbrev Gu(P:Program)(w:World)(K:W.Frag)(mg:Str->Option Value)(base:Heap)(N:List Str)(qual:Str)(scope:Scope)(f:Addr)(cdv:Value)(A:Around)(outer:List Env)(s0:Shared)(H0:Hp)(E:XK):Cx:=sy (ND P w) P w K mg base N qual scope f cdv A outer s0 H0 E
theorem Jb(hb:b∈qS (envOfC qual scope 44e9 f cdv::outer)):b=s0.heap.objs.size\/b∈qS outer:=by
 obtain⟨env,he,hf⟩:=RW.mp hb;rcases Ru.mp he with rfl|he
 ·exact .inl (Q7 hf).symm
 ·exact .inr (RW.mpr ⟨env,he,hf⟩)
theorem rh(I:bb 3e5 pins B H s){o:Obj}(e:s0.heap.get? b=some o)(hb:b∉qS outer):
  (∃o',s.heap.get? b=some o')/\b∉qS (envOfC qual scope 44e9 f cdv::outer):=
 ⟨I.base.there b o e (fun z => by cases z), fun z => by
  rcases Jb z with z|z
  ·exact absurd 73e5 (by rw[z];exact Rh _)
  ·exact hb z⟩
theorem vk(I:bb 3e5 pins B H s):∀b∈qS outer,H0 b=none/\∃o,s0.heap.get? b=some o/\∀vs,o.data≠.fields vs:=
 fun b hb=>⟨I.ok.frf b hb,(I.ok.funs.mem hb).2⟩
theorem OX:mh (ND P w) 3e5 E:=by
 intro pins B H s e s' I hc;obtain⟨ea,C,a0,σ,H',rfl,os,bare,un,hok,fl,hn,bk,q⟩:=hc;have J:=I.call' os un (hok.kept fl.1) bare (ch:=[]) 57e7
 have hB:∀b o,s0.heap.get? b=some o->b∉qS outer->∃o',σ.get? b=some o':=fun b o e hb=>by
  obtain⟨⟨o1,e1⟩,nb⟩:=rh I e hb;exact bk b o1 e1 nb
 refine wpAny_leaves_onW I.ok.frames rfl fl fun h' fl' up=>?_;exact⟨ea,C,a0,σ,H',rfl,J.os,bare,DD J.base hB fl.1 fl'.1 up (vk I),hok,fl',hn,hB,q⟩
theorem Mm{C:Addr}{vs:List Value}(I:bb 3e5 pins B H s)(hs:s'={s with heap:=69e0})(hx:Heap.MadeExcOf 3e0 69e0 ea 10e7 vs)(q:H ea=none->E 10e7 (some ea) H):(Gu P w K mg base N qual scope f cdv A outer s0 H0 E).xe (.ref ea) s':=by
 have hn:H ea=none:=by
  cases z:H ea with
  |none=>rfl
  |some u=>
   obtain⟨o,e⟩:=(I.hok ea u z).thr;rw[hx.new]at e;cases e
 have hin:∀env∈(envOfC qual scope 44e9 f cdv::outer),∀b,env.frame=some b->b∈qS (envOfC qual scope 44e9 f cdv::outer):=fun env he b hb=>RW.mpr ⟨env,he,hb⟩;have hst:(W.hideAll 3e0 18e6).StaysIn 3e0:=fun b o q=>W.of_hideAll _ q
 have hB:∀b o,s0.heap.get? b=some o->b∉qS outer->∃o',(W.hideAll 3e0 18e6).get? b=some o':=fun b o e hb=>by
  obtain⟨⟨o1,e1⟩,nb⟩:=rh I e hb;exact⟨o1,W.hideAll_get _ e1 nb⟩
 have nfr:∀c u,H c=some u->c∉qS (envOfC qual scope 44e9 f cdv::outer):=fun c u e z=>by rw[I.stkFree c z]at e;cases e
 have hok:pY P w H (W.hideAll 3e0 18e6):=fun b u e=>
  (I.hok b u e).stay (fun c v hc r => W.hideAll_get _ r (by
   rcases hc with rfl|hc
   ·exact nfr _ _ e
   ·exact nfr _ _ hc)) (fun _ r=>r) fun _ _ r=>r
 show wpAny _ _ (leaving _ (.ref ea)) _ _ s';refine wpAny_leaves_madeW I.ok.frames rfl hst (W.funFrames_hide I.stack hin) hx fun h' t fl _ _ up=>?_;rw[hs];exact⟨ea,C,.ref t,_,H,rfl,I.os,I.bare,DD I.base hB hst fl.1 ((Heap.UpToSlots.of_keeps hx.keeps).trans up) (vk I),hok,fl,hn,hB,q hn⟩
def rM(mg:Str->Option Value)(base:Heap)(c:Str)(C:Addr):Prop:=∃bm newId σ initId,OwnCls c C bm newId mg base/\ExcBaseFacts σ newId initId bm
theorem Ci{c:Str}{C:Addr}{cpos:Pos}(O:rM mg base c C)(hg:Gl 3e5 c)(hd:(c == ("__debug__" : Str))=false):
  PS 3e5 42e1 (fun _ _ H=>∀ea,H ea=none->E 10e7 (some ea) H):=by
 intro pins s B H D I q;obtain⟨bm,newId,σ,initId,O,FB⟩:=O;obtain⟨tl,Nn,nm,qn,bs,hdct,sn,sub,ab,col,dd,k0,k1,k2,k3,k5,mN,hC,hN,hni,T⟩:=O.obj
 refine wpAny_Raise_call_subT (C:=C) (nm:=nm) (q:=qn) (N:=Nn) (bs:=bs) (bm:=tl) (hdct:=hdct) (sn:=sn) (sub:=sub) (ab:=ab) (col:=col) (dd:=dd) (k0:=k0) (k1:=k1) (k2:=k2) (k3:=k3) (k5:=k5)
  FB (mN:=mN) (T.hasType FB.hasBase) (I.ok.hd rfl) rfl hni (oV I hg O.bound ⟨rfl,?_⟩ hd)
 exact evalArgs_empty ⟨rfl,TJ _,I.bk _ _ hC,hN.keeps I.bk,T.keeps I.bk,fun h' e hm=>Mm I rfl hm (q e)⟩
end
structure Cx.Fn(X:Cx):Prop where
 ex:X.ex=[]
 stk:X.stack=X.env::X.outer
 fr:X.env.frame=some 41e4
def Pc(X:Cx)(pins:List 3e6)(E:XK)(e:Value)(s':Shared):Prop:=
 ∃ea C a0 σ B H',e=.ref ea/\bb X pins B H' s'/\pY 23e6 X.w H' σ/\Heap.FlyingW σ 59e8 ea 10e7 a0 69e0/\H' ea=none /\
  (∀b o,X.s₀.heap.get? b=some o->b∉X.fs->∃o',σ.get? b=some o')/\(∀p∈X.pn++pins,∃o',σ.get? p.1=some o')/\E 10e7 (some ea) H'
abbrev Cx.tri(X:Cx)(pins:List 3e6)(E:XK):Cx:={X with pn:=X.pn++pins,xe:=Pc X pins E}
theorem Cx.Ok.tri{X:Cx}{E:XK}(ok:X.Ok):(X.tri pins E).Ok:=
 ⟨ok.mod,ok.kind,ok.glob,ok.blt,ok.above,ok.inj,ok.has,ok.cab,ok.hd,ok.frames,ok.stk,ok.exf,ok.bs,ok.bsz,ok.noex,ok.exfs,ok.funs,ok.frf⟩
theorem Cx.Ok.untri{X:Cx}{E:XK}(ok:(X.tri pins E).Ok):X.Ok:=
 ⟨ok.mod,ok.kind,ok.glob,ok.blt,ok.above,ok.inj,ok.has,ok.cab,ok.hd,ok.frames,ok.stk,ok.exf,ok.bs,ok.bsz,ok.noex,ok.exfs,ok.funs,ok.frf⟩
section
variable{X:Cx}{pins':List 3e6}{E:XK}
theorem bb.tri(I:bb X pins B H s):bb 44e2 [] B H s:=
 ⟨I.ok.tri,I.os,I.bare,I.base,I.loc,I.cell,I.free,I.freeC,fun p hp=>I.pin p 70e2,I.hok,I.len⟩
theorem bb.untri(I:bb 44e2 pins' B H s):bb X pins B H s:=
 ⟨I.ok.untri,I.os,I.bare,I.base,I.loc,I.cell,I.free,I.freeC,fun p hp=>I.pin p (Rx _ hp),I.hok,I.len⟩
theorem SP.untri{D:qf}{f:Flow}(h:SP 44e2 pins' D f s'):SP X pins D f s':=by
 cases f with
 |next=>obtain⟨B',H',I,q⟩:=h;exact⟨B',H',I.untri,q⟩
 |brk=>obtain⟨B',H',I,q⟩:=h;exact⟨B',H',I.untri,q⟩
 |cont=>obtain⟨B',H',I,q⟩:=h;exact⟨B',H',I.untri,q⟩
 |ret u=>obtain⟨v,B',H',I,r,q⟩:=h;exact⟨v,B',H',I.untri,r,q⟩
end
theorem Bu{X:Cx}(F:X.Fn)(hb:b∈qS 59e8):b=X.env.locals\/b∈X.fs:=by
 rw[F.stk]at hb;obtain⟨env,he,hf⟩:=RW.mp hb;rcases Ru.mp he with rfl|he
 ·rw[F.fr]at hf;exact .inl (Q7 hf).symm
 ·exact .inr (RW.mpr ⟨env,he,hf⟩)
theorem JL{X:Cx}{E:XK}(F:X.Fn):mh (ND 23e6 X.w) 44e2 E:=by
 intro pins' B H s e s' I hc;obtain⟨ea,C,a0,σ,H',rfl,os,bare,un,hok,fl,hn,bk,q⟩:=hc;have J:=I.call' os un (hok.kept fl.1) bare (ch:=[]) 57e7;refine⟨ea,C,a0,σ,B,H',rfl,J.untri,hok,fl,hn,fun b o e hb=>?_,fun p hp=>?_,q⟩
 ·obtain ⟨o1, e1⟩ := I.base.there b o e (by show b ∉ X.ex; rw [F.ex]; exact fun z => by cases z);refine bk b o1 e1 fun z=>?_;rcases Bu F z with z|z
  ·have:=I.ok.above;rw[z]at e;exact absurd 73e5 (Nat.not_lt.mpr this)
  ·exact hb z
 ·obtain ⟨p1, p2, p3, p4, p5⟩ := I.pin p (Rx _ hp);refine bk p.1 p.2 p1 fun z=>?_;rcases Bu F z with z|z
  ·exact p3 z
  ·exact p4 z
theorem BC{h:Heap}{c:Addr}{v:Option Value}(x:h.IsCell c v)(up:h.UpToSlots h'):h'.IsCell c v:=by
 obtain⟨o,ho,hd⟩:=x;obtain⟨sl,q⟩:=up c o ho fun vs z=>by rw[hd]at z;cases z
 exact⟨_,q,hd⟩
section
variable{X:Cx}{σ:Heap}{C:Addr}{a0:Value}
theorem bb.up(F:X.Fn)(I:bb X pins B H s)(hok:pY 23e6 X.w H σ)(c1:∀b o,X.s₀.heap.get? b=some o->b∉X.fs->∃o',σ.get? b=some o')(c2:∀p∈X.pn++pins,∃o',σ.get? p.1=some o')
  (k1:σ.StaysIn 3e0) (k2:σ.StaysIn h') (up:s.heap.UpToSlots h'):bb X pins B H {s with heap:=h'}:=by
 have hb:Un X.fs [] X.H₀ H X.s₀.heap h':=DD (by rw[<- F.ex];exact I.base) c1 k1 k2 up fun b hb=>⟨I.ok.frf b hb,(I.ok.funs.mem hb).2⟩;refine⟨I.ok,I.os,I.bare,by rw[F.ex];exact hb,?_,fun x c e=>?_,I.free,I.freeC,fun p hp=>?_,hok.kept k2,I.len⟩
 ·obtain ⟨m, hn, hl⟩ := I.loc;refine⟨m,up.ns hn,fun i x v a b c=>?_⟩;obtain⟨u,r,l⟩:=hl i x v a b c;refine⟨u,r,?_⟩;rcases l with l|⟨k,c,e,hc⟩
  ·exact .inl l
  ·exact .inr ⟨k,c,e,BC hc up⟩
 ·obtain⟨v,hv⟩:=I.cell x c e;exact⟨v,BC hv up⟩
 ·obtain⟨p1,p2⟩:=I.pin p hp;obtain⟨o',e⟩:=c2 p hp;have e1:=k1 _ _ e;rw[p1]at e1;cases e1;exact⟨k2 _ _ e,p2⟩
def xA(ea C:Addr):HO:=.ext fun h=>∃oe,h.get? ea=some oe/\oe.cls=.ref C
theorem Un.track{fs ex:List Addr}{h0 h:Heap}{o:HO}(u:Un fs ex H0 H h0 h)(hn:h0.get? ea=none)(hH:H ea=none):Un fs ex H0 (cQ H ea o) h0 h where
 keep:=u.keep
 slot:=u.slot
 free:=fun b ob e n hx=>by rw[bF fun z=>by rw[z,hn]at e;cases e];exact u.free b ob e n hx
 there:=u.there
 tups:=fun b xs q=>by have:=u.tups b xs q;rw[bF (cL this hH)];exact this
 frzs:=fun b ob xs q=>by have:=u.frzs b ob xs q;rw[bF (cL this hH)];exact this
 tbls:=fun b ps q=>by obtain⟨m,this⟩:=u.tbls b ps q;exact⟨m,by rw[bF (cL this hH)];exact this⟩
theorem bb.track(F:X.Fn)(I:bb X pins B H s)(c1:∀b o,X.s₀.heap.get? b=some o->b∉X.fs->∃o',σ.get? b=some o')(c2:∀p∈X.pn++pins,∃o',σ.get? p.1=some o')
  (fl:Heap.FlyingW σ 59e8 ea 10e7 a0 3e0) (hH:H ea=none):bb X pins B (cQ H ea (xA ea C)) s:=by
 obtain⟨f1,f2,f3,oe,vs,T,oT,ts,he,⟨hc,_⟩,hd,_⟩:=fl
 have hn:X.s₀.heap.get? ea=none:=by
  cases z:X.s₀.heap.get? ea with
  |none=>rfl
  |some o=>
   by_cases hf:ea∈X.fs
   ·obtain⟨_,o1,e1,nf⟩:=I.ok.funs.mem hf;obtain⟨sl,e2⟩:=I.base.slot ea o1 e1 (I.ok.frf ea hf) hf (by rw[F.ex];exact fun z=>by cases z);rw[he]at e2;cases e2;exact absurd hd (nf vs)
   ·obtain⟨o',e⟩:=c1 ea o z hf;rw[f2]at e;cases e
 have nl:X.env.locals≠ea:=fun z=>by
  obtain⟨m,⟨o',es,ep,ho',hd',_⟩,_⟩:=I.loc;rw[z,he]at ho';cases ho';rw[hd]at hd';cases hd'
 refine⟨I.ok,I.os,I.bare,I.base.track hn hH,I.loc,I.cell,by rw[bF nl];exact I.free,fun x c e=>?_,fun p hp=>?_,fun b u q=>?_,I.len⟩
 ·rw [bF fun z => ?_]
  ·exact I.freeC x c e
  ·obtain⟨v,o',ho',hd'⟩:=I.cell x c e;rw[z,he]at ho';cases ho';rw[hd]at hd';cases hd'
 ·obtain ⟨p1, p2, p3, p4, p5⟩ := I.pin p hp;refine⟨p1,?_,p3,p4,p5⟩;rw[bF fun z=>?_]
  ·exact p2
  ·obtain⟨o',e⟩:=c2 p hp;rw[z,f2]at e;cases e
 ·by_cases hb : b = ea
  ·subst hb;rw[cf]at q;cases q;refine⟨⟨oe,he,hc⟩,⟨oe,he⟩,fun h1 h2 a k=>?_⟩;obtain⟨o,e,c⟩:=a;exact⟨o,k o e,c⟩
  ·rw[bF hb]at q;exact(I.hok b u q).stay (fun _ _ _ r=>r) (fun c r=>by rw[bF (cL r hH)];exact r) fun c xs r=>by rw[bF (cL r hH)];exact r
end
abbrev Cx.hnd(X:Cx)(ea:Addr):Cx:={X with A:=X.A.mark (some (.ref ea)),calm:=false,xe:=fun _ _=>False}
theorem bb.hnd{X:Cx}(I:bb X pins B H s):bb (X.hnd ea) pins B H s:=
 ⟨⟨I.ok.mod, I.ok.kind, I.ok.glob, I.ok.blt, I.ok.above, I.ok.inj, I.ok.has, I.ok.cab, (fun z => by cases z), I.ok.frames, I.ok.stk, I.ok.exf, I.ok.bs, I.ok.bsz, I.ok.noex, I.ok.exfs, I.ok.funs, I.ok.frf⟩,
   I.os,I.bare,I.base,I.loc,I.cell,I.free,I.freeC,I.pin,I.hok,I.len⟩
theorem bb.unhnd{X:Cx}(ok:X.Ok)(I:bb (X.hnd ea) pins B H s):bb X pins B H s:=
 ⟨ok,I.os,I.bare,I.base,I.loc,I.cell,I.free,I.freeC,I.pin,I.hok,I.len⟩
theorem bb.forget{X:Cx}{m:Str->Option Value}(I:bb X pins B H s)(hn:h'.Ns 41e4 m)(sb:Heap.SameBut 41e4 3e0 h'):
  bb X pins (List.replicate X.N.length none) H {s with heap:=h',toks:=t'}:=by
 have ne:∀b o,X.s₀.heap.get? b=some o->b≠X.env.locals:=fun b o e z=>by
  have:=I.ok.above;rw[z]at e;exact absurd 73e5 (Nat.not_lt.mpr this)
 have same:∀b,b≠X.env.locals->h'.get? b=s.heap.get? b:=fun b hb=>sb.2 b hb;refine⟨I.ok,I.os,I.bare,⟨fun b o e n hb hx=>?_,fun b o e n hb hx=>?_,I.base.free,fun b o e hx=>?_,I.base.tups,I.base.frzs,I.base.tbls⟩,⟨m,hn,fun i x v _ e=>?_⟩,fun x c e=>?_,I.free,I.freeC,fun p hp=>?_,fun b u q=>?_,by simp⟩
 ·rw[same b (ne b o e)];exact I.base.keep b o e n hb hx
 ·rw[same b (ne b o e)];exact I.base.slot b o e n hb hx
 ·rw[same b (ne b o e)];exact I.base.there b o e hx
 ·rw[Sg]at e;split at e <;> cases e
 ·obtain⟨v,o,ho,hd⟩:=I.cell x c e;exact⟨v,o,by rw[same c (I.cne x c e)];exact ho,hd⟩
 ·obtain⟨p1,p2,p3,p4⟩:=I.pin p hp;exact⟨by rw[same _ p3];exact p1,p2,p3,p4⟩
 ·have nb : ∀ c u, H c = some u -> c ≠ X.env.locals := fun c u e z => by rw [z, I.free] at e; cases e
  exact(I.hok b u q).stay (fun c v hc r=>by
   rw[same c]
   ·exact r
   ·rcases hc with rfl | hc
    ·exact nb _ _ q
    ·exact nb _ _ hc) (fun _ r=>r) fun _ _ r=>r
theorem Lp{X:Cx}(F:X.Fn){r n:Str}{R:Addr}{hpos:Pos}{suite:List Stmt}{b0:Stmt}{tb:XK->TS}{th:TS}(hN:X.N.Nodup)(hi:X.N[i]?=some n)(hx:BH 16e5 n)(hl:X.env.kindOf n=some .local)(hg:Gl X r)(hm:X.mg r=some (.ref R))(hd:(r == ("__debug__" : Str))=false)(hb:∀pins E,kn 44e2 body (tb E))(hs:∀ea,kn (X.hnd ea) (b0::suite) th):
  PS X 27e3 (fun D B H=>∃E:XK,(∀C ea H',E 10e7 (some ea) H'->H' ea=none->W.exmOne X.K 10e7 (.ref R)=some true /\
   ∀B':St,B'.length=X.N.length->th {nx:=fun _ _=>False,rt:=D.rt} (B'.set i (some (.ref ea))) 47e0)/\tb E D B H):=by
 intro pins s B H D I hq;obtain⟨E,hE,hq⟩:=hq;refine wpAny_Try_except (RC (hb pins E [] s B H D I.tri hq) (fun f s1 h1=>?_) fun e s1 h1=>?_)
 ·cases f with
  |next=>exact RG (SP.untri h1)
  |brk=>exact SP.untri h1
  |cont=>exact SP.untri h1
  |ret u=>exact SP.untri h1
 ·obtain ⟨ea, C, a0, σ, B1, H1, rfl, I1, hok, fl, hn, c1, c2, q⟩ := h1;obtain⟨q1,q2⟩:=hE C ea H1 q hn;have fl0:=fl;rw[F.stk]at fl;refine wpAny_looks_onW (by rw[<- F.stk];exact I.ok.frames) F.fr fl fun h4 held4 up4=>?_;refine wpAny_landsW held4 fun h5 fl5 up5=>?_;have fl5':=fl5;rw[<- F.stk]at fl5';have I5:=I1.up F hok c1 c2 fl0.1 fl5.1 (up4.trans up5);have J5:bb (X.hnd ea) pins B1 H1 {s1 with heap:=h5}:=I5.hnd;refine wpAny_handleBy_cons (codeAny_handlers_test (oV J5 hg hm ?_ hd)) (by intro q;cases q);obtain⟨ob,hob,hobc⟩:=fl5.there
  have LT:W.Looks 1e1 h5 (typeOf (.ref ea)) 10e7:=by
   rw[<- hobc];exact(W.Looks.ld hob).andThen .now
  refine(W.exm_one J5.kIn LT q1).here (codeAny_handlers_suite_as ?_);refine lands_againW fl5 fun h6 fl6 up6=>?_;have fl6':=fl6;rw[<- F.stk]at fl6';have I6:=I5.up F hok c1 c2 fl5.1 fl6.1 up6;have I6':=I6.track F c1 c2 fl6' hn;refine pb (v:=.ref ea) I6' hN hi hx rfl (fun s7 I7=>?_) (.inr hl);refine RC (hs ea pins s7 _ _ _ I7.hnd (q2 B1 I1.len)) (fun f s8 h8=>?_) fun _ _ z=>False.elim z;cases f with
  |next=>obtain⟨_,_,_,z⟩:=h8;exact False.elim z
  |brk=>obtain⟨_,_,_,z⟩:=h8;exact False.elim z
  |cont=>obtain⟨_,_,_,z⟩:=h8;exact False.elim z
  |ret u=>
   obtain⟨v,B',H',I8,rv,z⟩:=h8;have I8':=I8.unhnd I.ok;obtain⟨m,hn8,_⟩:=I8'.loc;refine wpAny_nameGoes hl hn8 (by rw[I.ok.kind];rfl) fun h9 m9 hn9 sb=>?_;exact⟨v,_,H',I8'.forget hn9 sb,rv,z⟩
structure fX(k:Nat)(A:Around):Prop where
 dp:A.depth+3*k+5<recursionLimit
 un:A.units+16*k+200<cLine
 gd:A.guards=some []
theorem iw.h{k:Nat}(r:iw k A):fX k A:=⟨r.dp,r.un,r.gd⟩
theorem fX.mark{k:Nat}(r:fX k A)(e:Option Value):fX k (A.mark e):=⟨r.dp,r.un,r.gd⟩
theorem fX.mono{k:Nat}(r:fX k A)(h:j<=k):fX j A:=⟨by have:=r.dp;omega,by have:=r.un;omega,r.gd⟩
theorem fX.deeper{k:Nat}(r:fX (k+1) A)(env:Env):fX k (A.deeper env):=
 ⟨by have:=r.dp;show A.depth+1+3*k+5<_;omega,by have:=r.un;show A.units+3+16*k+200<_;omega,r.gd⟩
theorem fX.depth{k:Nat}(r:fX k A):A.depth<recursionLimit:=by have:=r.dp;omega
theorem fX.units{k:Nat}(r:fX k A):A.units+64<cLine:=by have:=r.un;omega
structure xV(P:Program)(w:World)(K:W.Frag)(mg:Str->Option Value)(base:Heap)(CX:xk)(k:Nat)(f:Addr)(fd:FuncData)(ps:List Str)(sp:Sp):Prop where
 len:∀vs H Q E,sp vs H Q E->vs.length=29e2
 run:∀(A:Around)(outer:List Env)(s:Shared)(H:Hp)(args:Args)(us:List Value)(vs:List V)(Q:VK)(E:XK),fX k A->BO P w K mg base A outer s H->BindsTo s fd args 30e3->bt vs us->sp vs H Q E ->
  codeAny 33e5 A (.call 4e6 args) (CR CX outer P w H s Q E) s
section
variable{X:Cx}{k:Nat}{C:Addr}{ps:List Str}{dvs:List V}{ds:List Value}{E:XK}{m:Str}{p:Pos}{o:Expr}{es:List Expr}{ta:TE}{t:TA}
theorem HC{Q:VK}(F:xV 23e6 X.w X.K X.mg 62e1 CX k f fd ps sp)(hr:fX k X.A)(hb:iZ X.K fd ps ds)(hd:bt dvs ds)(hx:mh CX X E)(I:bb X pins B H s)(r:bt vs us)(h:sp (vs++dvs) H Q E):wpAny 1e1 X.A (call 4e6 us) 10e8 X.xe s:=by
 have r2:bt (vs++dvs) (us++ds):=r.append hd;have hl:(us++ds).length=ps.length:=by rw[<- r2.length];exact F.len _ _ _ _ h
 refine wpAny_call 16e6;cases r with
 |error e=>exact hx pins B H s e s' I hq
 |ok fl=>
  cases fl with
  |ret u=>exact I.after hq
  |next=>exact False.elim hq
  |brk=>exact False.elim hq
  |cont=>exact False.elim hq
theorem FA(F:xV 23e6 X.w X.K X.mg 62e1 CX k f fd ps sp)(hr:fX k X.A)(hg:Gl X x)(hm:X.mg x=some 4e6)(hk:W.keepIn X.K 4e6=true)(hb:iZ X.K fd ps ds)(hd:bt dvs ds)(hx:mh CX X E)
  (ha:PA X (e::es) t) (hdb:(x == ("__debug__" : Str))=false:=by decide) (he:starEach (e::es) 2e1=(false,eval e 2e1)::starEach es 2e1:=by rfl) (hpl:(backTo pos 7e7).any 3e3=false:=by rfl) :
  PE X 22e5 (Jy sp dvs E t):=by
 intro pins s B H Q I h;refine R8 (oV I hg hm ?_ hdb);refine W.callWith_K (h₀:=62e1) I.ok.mod.kin hk 29e3 he hpl;exact HC F hr hb hd hx I1 r q
end
def sH(CX:xk)(P:Program)(w:World)(K:W.Frag)(mg:Str->Option Value)(base:Heap)(N:List Str)(qual:Str)(scope:Scope)(f:Addr)(cd:Value)(A:Around)(outer:List Env)(s:Shared)(H:Hp)(E:XK):Cx where
 prog:=P
 w:=w
 K:=K
 mg:=mg
 base:=base
 A:=A.deeper 14e7
 N:=N
 s₀:=s
 H₀:=H
 env:=envOfC qual scope 0e3 f cd
 outer:=outer
 stack:=envOfC qual scope 0e3 f cd::outer
 ex:=[]
 calm:=false
 fn:=fun _=>true
 pn:=[]
 xe:=fun e s'=>wpAny 33e5 (A.deeper 14e7) (leaving 14e7 e) 72e6 68e7 s'
theorem Au{ps:List Str}{cd:Value}{s1:Shared}{E:XK}(S:aX N ps scope)(e0:BO P w K mg base A outer s H)(hl:vs.length=29e2)(r:bt vs us)(x:InCallC s 0e3 38e0 (cellsFrom 8e6 18e5 []) 38e1 s1):
  bb (sH CX P w K mg base N qual scope f cd A outer s H E) [] 54e9 H s1:=by
 have hpl:ps.length<=N.length:=by have:=RF List.length S.pre;rw[Sd]at this;omega
 obtain⟨h1,tk,rfl,hk⟩:=x.done;have noA:∀b:Addr,b∉(sH CX P w K mg base N qual scope f cd A outer s H E).ex:=fun b z=>absurd 38e2 0e6
 refine⟨⟨e0.mod,S.kind,rfl,rfl,RT _,fun y z c h1 h2=>?_,fun y hy=>?_,fun y c _ h=>?_,(fun z=>by cases z),Around.frames_deeper e0.frames,.inr ⟨rfl,rfl⟩,fun b z=>absurd z (noA b),e0.bs,e0.bsz,fun b _ _=>noA b,fun b z=>absurd z (noA b),e0.funs,e0.frf⟩,
  rfl,e0.bare,Un.kept hk,⟨_,x.toInCall.ns,fun i y v h1 h2 h3=>?_⟩,fun y c h=>⟨_,x.cell y c h⟩,e0.hok.fresh 7e5,fun y c h=>?_,fun p hp=>absurd 25e4 0e6,e0.hok.kept hk,?_⟩
 ·exact name_of_addr x.apart (Se h1) (Se h2)
 ·have hy : scope.names.lookup y = some .cell \/ scope.names.lookup y = some .free := hy;rcases hy with hy|hy
  ·exact pD hy
  ·exact absurd rfl (S.nofree _ (Se hy))
 ·exact Rn 45e9
 ·have hi:i<vs.length:=by
   unfold start at h2;by_cases hi:i<vs.length
   ·exact hi
   ·rw[Sf 6e4]at h2;rw[Sg]at h2;split at h2 <;> cases h2
  have ha:vs[i]?=some v:=by
   unfold start at h2;rw[Sh 6e4,Si]at h2;cases e:vs[i]? with
   |none=>rw[e]at h2;cases h2
   |some a=>rw[e]at h2;cases h2;rfl
  obtain⟨u,hu,rv⟩:=r.get ha
  have hp:ps[i]?=some y:=by
   rw[<- S.pre,Sj 0e0];exact h1
  have ndP:ps.Nodup:=by rw[<- S.pre];exact S.nd.sublist (List.take_sublist _ _)
  refine⟨u,rv,?_⟩;rcases S.par y (Sk hp) with k|k
  ·exact .inl ⟨k,qI ndP hp hu k⟩
  ·obtain⟨c,e⟩:=pD (n:=s.heap.objs.size+1) k;refine .inr ⟨.inl k,c,e,?_⟩;have q:=x.cell y c e;rw[qJ ndP hp hu 52e9]at q;exact q
 ·exact e0.hok.fresh (Rn 45e9)
 ·unfold start;show _=N.length;rw[Sl,Sn,So];omega
theorem MQ{k:Nat}{name:Str}{dV kV doc pm ct oc:Value}{od:Option Addr}{ps:List Str}(lk:K.lookup f=some ⟨oc,od,.func 11e0,osl⟩)(hcd:W.codeIn K cdv qual=true)(S:aX N ps scope)(len:∀vs H Q E,sp vs H Q E->vs.length=29e2)(hbody : ∀ (A : Around) (outer : List Env) (s : Shared) (H : Hp) (vs : List V) (Q : VK) (E : XK), fX k 60e2 -> sp vs H Q E ->
   ∃t,kn 19e4 body t/\t {nx:=fun _ H'=>Q .non H',rt:=Q} (start N vs) H):
  xV P w K mg base CX (k+1) f 11e0 ps sp:=by
 refine⟨len,fun A outer s H args us vs Q E hr e0 hb r hsp=>?_⟩;have hl:=len _ _ _ _ hsp;have KX:K.In 3e0:=e0.mod.kin.keeps fun b o e=>(e0.bs b o e).1;have lim:s.heap.NoLimit:=e0.mod.nolimit.keeps fun b o e=>(e0.bs b o e).1
 have hkind:∀y∈ps.zip us,scope.names.lookup y.1=some .local\/(scope.names.lookup y.1=some .cell/\((cellsFrom 8e6 18e5 []).lookup y.1).isSome=true):=fun⟨n,v⟩ hy=>by
  rcases S.par n (Sa hy).1 with q|q
  ·exact .inl q
  ·exact .inr ⟨q,W.cellsFrom_some _ _ _ (.inl q)⟩
 refine codeAny_call_function hr.depth (KX _ _ lk) rfl S.co S.gen rfl (W.codeRec_of KX hcd) (hb _ _ _ _ ?_);refine wpAny_newFunctionEnv_cells S.kind hkind fun env he s1 x=>?_;subst he;refine⟨lim.keeps x.toInCall.keep,codeAny_func ?_⟩;obtain⟨t,ht,hq⟩:=hbody A outer s H vs Q E (hr.deeper _) hsp;have I:bb 19e4 [] 54e9 H s1:=Au S e0 hl r x;refine RC (ht [] s1 54e9 H _ I hq) (fun fl s' hs=>?_) fun e s' hs=>hs
 have fin:∀{B':St}{H':Hp}{v:V}{u:Value},bb 19e4 [] B' H' s'->cE v u->Q v H'->CE outer P w H s Q u s':=
  fun {B' H' v u} J rv q=>⟨v,H',J.os,J.bare,J.base,J.hok,rv,q⟩
 cases fl with
 |ret u=>
  obtain⟨v,B',H',J,rv,q⟩:=hs;exact fin J rv q
 |next=>
  obtain⟨B',H',J,q⟩:=hs;exact fin (v:=V.non) (u:=Value.none) J rfl q
 |brk=>
  obtain⟨_,_,_,q⟩:=hs;exact False.elim q
 |cont=>
  obtain⟨_,_,_,q⟩:=hs;exact False.elim q
section
theorem ir.okH{ps:List Str}{k:Nat}(F:ir K x qual st f fd)(S:aX N ps 60e3)(len:∀vs H Q E,sp vs H Q E->vs.length=29e2)(hbody : ∀ (cdv : Value) (A : Around) (outer : List Env) (s : Shared) (H : Hp) (vs : List V) (Q : VK) (E : XK), fX k 7e0 -> sp vs H Q E ->
   ∃t,kn (sH zy P w K mg base N qual 60e3 f cdv A outer s H E).nox (cW st) t/\t {nx:=fun _ H'=>Q .non H',rt:=Q} (start N vs) H):xV P w K mg base zy (k+1) f fd ps sp:=by
 obtain⟨oc,od,kV,doc,pm,an,cdv,ct,osl,rfl,lk,hcd⟩:=F.ex;refine MQ lk hcd S len fun A outer s H vs Q E hr hsp=>?_;obtain⟨t,h,q⟩:=hbody cdv A outer s H vs Q E hr hsp;exact⟨t,h.nox,q⟩
end
end L2
namespace PySem.W
open PySem PySem.Spec PySem.Calls PyProof.Rows
section
variable{K:Frag}{x D:Addr}{a g:Value}{name:Str}{h:Heap}{M:Model}
theorem ze (X:K.In h) (ha:findIn K 16e8 name=some (some a)) (hg:specialIn K a "__get__" = some (some g)) (ht:takesIn K a=some true):Looks M h (Builtin.ObjectAttr.find 73e4 16e8 name) (.bind g a):=
 (looks_findIn X ha).andThen ((show Looks M h (Builtin.ObjectAttr.getOf (some a)) (some g) from looks_specialIn X hg).andThen ((show Looks M h (Builtin.ObjectAttr.dataDescriptor? (some a) (some g)) (some (g,a)) from (looks_takesIn X ht).andThen .now).andThen (Looks.tag .now)))
theorem AF {R:Result->Shared->Prop} (X:K.In 3e0) (L:Looks 1e2 3e0 27e9 16e8) (hm:mroIn K D 9e3=some true) (hr:R (.ok (.ret 16e8)) s) :
  codeAny 1e2 A (.call 10e5 ⟨[.builtin "object.__class__",.ref x,.ref D],[]⟩) R s:=by
 obtain⟨hh,g,d,t,os⟩:=s;have L0:Looks 1e2 hh 27e9 16e8:=L;have L1:Looks 1e2 hh (isSubtype 16e8 9e3) true:=looks_mroIn X hm;have hT5:(⟨hh,g,d,t,os⟩:Shared).TypeIs 3e9 "getset_descriptor" := F.typeOf_object_class;have ow:(".".intercalate ("object.__class__".cutAt '.').dropLast) = "object" := by decide +kernel
 refine UT F.slot_gs_get.plain F.entry_gs_get (F.slot_gs_get.check _ _ _ _ _ _ _ _ hT5 (F.args_gs_get _ _ _) ?_)
 repeat (any_goals (first|assumption|with_reducible refine L0.at ?_|(rw[ow])|with_reducible refine L1.at ?_|wp_step))
 refine⟨US _ 1e0,UM KF.entry_class ?_⟩;unfold Builtin.«object.__class__»
 repeat (any_goals (first|assumption|with_reducible refine L0.at ?_|wp_step))
theorem F6 {hh:Heap}{g:Array GenState}{d:Drawn}{t:Nat}{os:OsState}{M:Model}{nameV:Value}{Q:Unit->Shared->Prop} (X:K.In hh) (L0:Looks M hh 27e9 16e8) (hmB:mroIn K D 6e8=some true) (hq:Q () ⟨hh,g,d,t,os⟩) :
  wpAny M A (checkBuiltinCall "BaseException.__getattribute__" ⟨[.ref x,nameV],[]⟩) Q E ⟨hh,g,d,t,os⟩:=by
 have hk:builtinKind "BaseException.__getattribute__" = some .slot:=by decide +kernel
 have hsplit:splitId "BaseException.__getattribute__" = some ("BaseException", "__getattribute__"):=by decide +kernel
 have ha:=F.args_bexc_ga 73e4 nameV;have L1:=looks_mroIn (M:=M) X hmB;dsimp[checkBuiltinCall,hk,hsplit];refine RH ?_
 ·unfold isInstance
  repeat (first|lk|wp_step)
  exact hq
theorem F5{Q:Fin->Shared->Prop}(X:K.In 3e0)(L:Looks 1e2 3e0 27e9 16e8)(ha:findIn K 16e8 "__class__" = some (some 3e9))(hn:specialIn K 3e9 "__get__" = some (some 10e5))(htk:takesIn K 3e9=some true)(hm:mroIn K D 9e3=some true)(hq:Q (.done (.ret 16e8)) s):
  wpAny 1e2 A (Builtin.«object.__getattribute__» ⟨[.ref x,.str "__class__" tk],[]⟩) Q E s:=by
 obtain⟨hh,g,d,t,os⟩:=s;have L0:Looks 1e2 hh 27e9 16e8:=L;have f3:Looks 1e2 hh (Builtin.ObjectAttr.find 73e4 16e8 "__class__") (.bind 10e5 3e9):=ze X ha hn htk;unfold Builtin.«object.__getattribute__»
 repeat (any_goals (first|assumption|with_reducible refine L0.at ?_|with_reducible refine f3.at ?_|wp_step))
 refine AF (s:=⟨hh,g,d,t,os⟩) X L hm ?_
 repeat (any_goals (first|assumption|wp_step))
theorem CS {Q:Option Value->Shared->Prop} (X:K.In 3e0) (L:Looks 1e2 3e0 27e9 16e8) (hga:findIn K 16e8 "__getattribute__" = some 21e9) (hgn:findIn K 16e8 "__getattr__" = some none)
  (ha:findIn K 16e8 "__class__" = some (some 3e9)) (hn:specialIn K 3e9 "__get__" = some (some 10e5)) (htk:takesIn K 3e9=some true) (hm:mroIn K D 9e3=some true) (hmB:mroIn K D 6e8=some true) (hq:Q (some 16e8) {s with toks:=s.toks+1}) :
  wpAny 1e2 A (getAttr? 73e4 "__class__") Q E s:=by
 obtain⟨hh,g,d,t,os⟩:=s;have L0:Looks 1e2 hh 27e9 16e8:=L;have L1:Looks 1e2 hh (typeLookup 16e8 "__getattribute__") 21e9:=looks_findIn X hga;have L2:Looks 1e2 hh (typeLookup 16e8 "__getattr__") none:=looks_findIn X hgn;have f3:=PySem.F.attr_ValueError.ga.bind 73e4;have hx2:(Value.builtin "BaseException.__getattribute__" == Value.builtin "object.__getattribute__")=false:=by decide +kernel
 have hx1:(onTheHeap (Value.ref D)&&Value.builtin "BaseException.__getattribute__" == Value.builtin "object.__getattribute__")=false:=by rw[hx2];rfl
 have hx0:(false&&onTheHeap (Value.builtin "BaseException.__getattribute__"))=false:=rfl;unfold getAttr? getAttrBy?
 repeat (any_goals (first|assumption|with_reducible refine L0.at ?_|with_reducible refine L1.at ?_|with_reducible refine L2.at ?_|wp_step))
 refine UT PySem.F.attr_ValueError.ga.plain F.entry_bexc_ga (F6 X L0 hmB (F5 (tk:=t) X L0 ha hn htk hm ?_))
 repeat (any_goals (first|assumption|wp_step))
end
def excCls (K:Frag) (D:Addr):Bool:=findIn K 16e8 "__getattribute__" == some 21e9&&findIn K 16e8 "__getattr__" == some none&&(clsIn K D).isSome&&findIn K 16e8 "__class__" == some (some 3e9) &&
 mroIn K D 9e3 == some true&&mroIn K D 6e8 == some true&&specialIn K 3e9 "__get__" == some (some 10e5)&&takesIn K 3e9 == some true
section
variable{K:Frag}{x D:Addr}
theorem kitx_exc(e:excCls K D=true):KitX K 73e4 16e8 (fun h=>∃ox,h.get? x=some ox/\ox.cls=.ref D):=by
 unfold excCls at e;dsimp[SM,Vl]at e;obtain⟨⟨⟨⟨⟨⟨⟨hga,hgn⟩,hc⟩,ha⟩,hm⟩,hmB⟩,hn⟩,htk⟩:=e
 exact {
  ty:=fun _ _ _ ⟨ox,h1,h2⟩=>h2 ▸ (Looks.ld h1).andThen .now
  it:=fun _ _ X _=>by
   obtain⟨cdD,hcD⟩:=Sb.mp hc;unfold clsIn at hcD;split at hcD
   ·rename_i c' d' cd' sl' ho;intro A' Q' E' s' k q;unfold isType loadHead;exact RH (wpAny_loadPart (k _ _ (X _ _ ho)) (RN q))
   ·cases hcD
  ne:=fun h tp dd its n sl X htp=>by
   obtain⟨cdD,hcD⟩:=Sb.mp hc;refine Bool.eq_false_iff.mpr fun q=>?_;have e:D=tp:=Value.ref.inj (Vl.mp q);subst e;unfold clsIn at hcD;split at hcD
   ·rename_i c' d' cd' sl' ho;have z:=(X _ _ ho).symm.trans htp;cases z
   ·cases hcD
  ca:=fun {prog w A E Q s} X ⟨ox,h1,h2⟩ h=>CS X (h2 ▸ (Looks.ld h1).andThen .now) hga hgn ha hn htk hm hmB h}
end
end PySem.W
namespace L2
open PySem PySem.Spec PyProof.Rows
def NR(K:W.Frag)(u:Value):List V->Hp->VK->Prop:=fun xs H Q=>∃a D b v,xs=[.ref a,v]/\cE v u/\H a=some (xA a D)/\W.excCls K D=true/\W.kitOne K 16e8 u=some b/\Q 37e0 H
theorem yQ{X:Cx}(hu:∀v w,cE v u->cE v w->w=u):du X 57e9 (NR X.K u):=by
 intro pins s B H xs us Q I r h;obtain⟨a,D,b,v,rfl,rv,ea,hc,e,q⟩:=h;cases r with
 |cons r1 r2=>
  cases r2 with
  |cons r3 r4=>
   cases r4;cases (show _=Value.ref a from r1);have z:=hu v _ rv r3;subst z;obtain⟨⟨oe,h1,h2⟩,_⟩:=(show eY 23e6 X.w H 3e0 a (xA a D) from I.hok a _ ea);exact W.kia_one (W.kitx_exc hc) I.kIn ⟨oe,h1,h2⟩ e 20e3 fun tk=>⟨.bl b,H,I.tok _,rfl,q⟩
end L2
namespace L2
open PySem PySem.Spec PyProof.Rows RS
inductive D where
 |non|bl (b:Bool)|int (i:Int)|str (x:Str)|tup (xs:List D)|frz (xs:List D)|obj (n:Nat)
inductive O where
 |lst (xs:List D)|set (ks:List 1e8)|iset (ks:List Int)|dic|exc (c:Str)
abbrev aB:=List O
abbrev Ro:=List (Option D)
def Jt(K:W.Frag)(H:Hp)(a:Addr)(xs:List V):Prop:=
 (∃ o, H a = some (.frz o 3e1)) \/
  ∃(o:Obj) (its:Array Value) (n:Nat),K.lookup a=some o/\o.cls=.type "list" /\ o.dict=none/\o.data=.seq its n/\its.size<=sizeLine/\bt xs 76e9
theorem Jt.sq{xs:List V}(h:Jt K H a xs):gW K H a xs:=by
 rcases h with⟨o,h⟩|h
 ·exact .inl (.inr ⟨o,h⟩)
 ·exact .inr h
section
variable(K:W.Frag)(H:Hp)(Z:List Addr)
mutual
def aQ:D->V->Prop
 |.non,v=>v=.non
 |.bl b,v=>v=.bl b
 |.int i,v=>v=.int i
 |.str x,v=>v=.str x
 |.tup xs,v=>∃a vs,v=.ref a/\fS K H a vs/\Reps xs vs
 |.frz xs,v=>∃a vs,v=.ref a/\Jt K H a vs/\Reps xs vs
 |.obj n,v=>∃a,v=.ref a/\Z[n]?=some a
def Reps:List D->List V->Prop
 |[],vs=>vs=[]
 |x::xs,vs=>∃v r,vs=v::r/\aQ x v/\Reps xs r
end
end
structure lV(K:W.Frag)(H H':Hp)(Z Z':List Addr):Prop where
 tup:∀a xs,fS K H a xs->fS K H' a xs
 frz:∀a xs,Jt K H a xs->Jt K H' a xs
 pre:∀(n:Nat) a,Z[n]?=some a->Z'[n]?=some a
section
variable{H' H1 H2:Hp}{Z' Z1 Z2:List Addr}
theorem lV.refl:lV K H H Z Z:=⟨fun _ _ h=>h,fun _ _ h=>h,fun _ _ h=>h⟩
theorem lV.trans(a:lV K H H1 Z Z1)(b:lV K H1 H2 Z1 Z2):lV K H H2 Z Z2:=
 ⟨fun c xs h=>b.tup c xs (a.tup c xs h),fun c xs h=>b.frz c xs (a.frz c xs h),fun n c h=>b.pre n c (a.pre n c h)⟩
mutual
theorem aQ.mono(e:lV K H H' Z Z'):∀{d:D}{v:V},aQ K H Z d v->aQ K H' Z' d v
 |.non,_,h=>by dsimp[aQ]at h⊢;exact h
 |.bl _,_,h=>by dsimp[aQ]at h⊢;exact h
 |.int _,_,h=>by dsimp[aQ]at h⊢;exact h
 |.str _,_,h=>by dsimp[aQ]at h⊢;exact h
 |.tup xs,_,h=>by
  dsimp[aQ]at h⊢;obtain⟨a,vs,rfl,h1,h2⟩:=h;exact⟨a,vs,rfl,e.tup a vs h1,Reps.mono e h2⟩
 |.frz xs,_,h=>by
  dsimp[aQ]at h⊢;obtain⟨a,vs,rfl,h1,h2⟩:=h;exact⟨a,vs,rfl,e.frz a vs h1,Reps.mono e h2⟩
 |.obj n,_,h=>by
  dsimp[aQ]at h⊢;obtain⟨a,rfl,h1⟩:=h;exact⟨a,rfl,e.pre n a h1⟩
theorem Reps.mono(e:lV K H H' Z Z'):∀{ds:List D}{vs:List V},Reps K H Z ds vs->Reps K H' Z' ds vs
 |[],_,h=>by dsimp[Reps]at h⊢;exact h
 |d::ds,_,h=>by
  dsimp[Reps]at h⊢;obtain⟨v,r,rfl,h1,h2⟩:=h;exact⟨v,r,rfl,aQ.mono e h1,Reps.mono e h2⟩
end
theorem Reps.nil:Reps K H Z [] []:=by dsimp[Reps]
theorem Reps.cons{d:D}{ds:List D}(h1:aQ K H Z d v)(h2:Reps K H Z ds vs):Reps K H Z (d::ds) (v::vs):=by
 dsimp[Reps];exact⟨v,vs,rfl,h1,h2⟩
theorem Reps.length:∀{ds:List D}{vs:List V},Reps K H Z ds vs->vs.length=ds.length
 |[],vs,h=>by dsimp[Reps]at h;rw[h];rfl
 |d::ds,vs,h=>by
  dsimp[Reps]at h;obtain⟨v,r,rfl,h1,h2⟩:=h;simp[Reps.length h2]
theorem Reps.get:∀{ds:List D}{vs:List V}{i:Nat}{d:D},Reps K H Z ds vs->ds[i]?=some d->∃v,vs[i]?=some v/\aQ K H Z d v
 |[],_,_,_,_,e=>by simp at e
 |d::ds,vs,i,x,h,e=>by
  dsimp[Reps]at h;obtain⟨v,r,rfl,h1,h2⟩:=h;cases i with
  |zero=>simp at e;subst e;exact⟨v,rfl,h1⟩
  |succ i=>exact Reps.get (i:=i) h2 30e1
theorem Reps.append:∀{ds es:List D}{vs ws:List V},Reps K H Z ds vs->Reps K H Z es ws->Reps K H Z (ds++es) (vs++ws)
 |[],_,vs,_,h,g=>by dsimp[Reps]at h;subst h;exact g
 |d::ds,_,vs,_,h,g=>by
  dsimp[Reps]at h;obtain⟨v,r,rfl,h1,h2⟩:=h;exact Reps.cons h1 (Reps.append h2 g)
theorem Reps.take:∀{ds:List D}{vs:List V}(n:Nat),Reps K H Z ds vs->Reps K H Z (ds.take n) (vs.take n)
 |[],vs,n,h=>by dsimp[Reps]at h;subst h;simpa using Reps.nil
 |d::ds,vs,n,h=>by
  dsimp[Reps]at h;obtain⟨v,r,rfl,h1,h2⟩:=h;cases n with
  |zero=>exact Reps.nil
  |succ n=>exact Reps.cons h1 (Reps.take n h2)
theorem Reps.drop:∀{ds:List D}{vs:List V}(n:Nat),Reps K H Z ds vs->Reps K H Z (ds.drop n) (vs.drop n)
 |[],vs,n,h=>by dsimp[Reps]at h;subst h;simpa using Reps.nil
 |d::ds,vs,n,h=>by
  cases n with
  |zero=>exact h
  |succ n=>
   dsimp[Reps]at h;obtain⟨v,r,rfl,h1,h2⟩:=h;exact Reps.drop n h2
theorem Reps.set{d:D}{v:V}(q:aQ K H Z d v):∀{ds:List D}{vs:List V}(n:Nat),Reps K H Z ds vs->Reps K H Z (ds.set n d) (vs.set n v)
 |[],vs,n,h=>by dsimp[Reps]at h;subst h;simpa using Reps.nil
 |e::ds,vs,n,h=>by
  dsimp[Reps]at h;obtain⟨v',r,rfl,h1,h2⟩:=h;cases n with
  |zero=>exact Reps.cons q h2
  |succ n=>exact Reps.cons h1 (Reps.set q n h2)
theorem Reps.eraseIdx:∀{ds:List D}{vs:List V}(n:Nat),Reps K H Z ds vs->Reps K H Z (ds.eraseIdx n) (vs.eraseIdx n)
 |[],vs,n,h=>by dsimp[Reps]at h;subst h;simpa using Reps.nil
 |e::ds,vs,n,h=>by
  dsimp[Reps]at h;obtain⟨v',r,rfl,h1,h2⟩:=h;cases n with
  |zero=>exact h2
  |succ n=>exact Reps.cons h1 (Reps.eraseIdx n h2)
theorem Reps.reverse:∀{ds:List D}{vs:List V},Reps K H Z ds vs->Reps K H Z ds.reverse vs.reverse
 |[],vs,h=>by dsimp[Reps]at h;subst h;exact Reps.nil
 |d::ds,vs,h=>by
  dsimp[Reps]at h;obtain⟨v,r,rfl,h1,h2⟩:=h;rw[S8,S8];exact Reps.append (Reps.reverse h2) (Reps.cons h1 Reps.nil)
theorem Reps.one{d:D}(h:Reps K H Z [d] vs):∃v,vs=[v]/\aQ K H Z d v:=by
 dsimp[Reps]at h;obtain⟨v,r,rfl,h1,rfl⟩:=h;exact⟨v,rfl,h1⟩
theorem Reps.two{d e:D}(h:Reps K H Z [d,e] vs):∃v u,vs=[v,u]/\aQ K H Z d v/\aQ K H Z e u:=by
 dsimp[Reps]at h;obtain⟨v,r,rfl,h1,u,r',rfl,h2,rfl⟩:=h;exact⟨v,u,rfl,h1,h2⟩
theorem Reps.snoc{d:D}{ds:List D}(h:Reps K H Z ds vs)(q:aQ K H Z d v):Reps K H Z (ds++[d]) (vs++[v]):=h.append (Reps.cons q Reps.nil)
theorem Reps.ints:∀{ns:List Int}{vs:List V},Reps K H Z 4e7 vs->vs=ns.map V.int
 |[],vs,h=>by dsimp[SQ,Reps]at h;exact h
 |n::ns,vs,h=>by
  dsimp[SR,Reps]at h;obtain⟨v,r,rfl,h1,h2⟩:=h;dsimp[aQ]at h1;rw[h1,Reps.ints h2];rfl
theorem kc:∀(ns:List Int),Reps K H Z 4e7 7e3
 |[]=>Reps.nil
 |n::ns=>Reps.cons (by dsimp[aQ]) (kc ns)
theorem aN{xs:List D}:aQ K H Z 15e5 v↔∃a vs,v=.ref a/\fS K H a vs/\Reps K H Z xs vs:=by dsimp[aQ]
theorem bI{xs:List D}:aQ K H Z (.frz xs) v↔∃a vs,v=.ref a/\Jt K H a vs/\Reps K H Z xs vs:=by dsimp[aQ]
theorem aU:aQ K H Z 23e9 v↔∃a,v=.ref a/\Z[n]?=some a:=by dsimp[aQ]
theorem ax{n:Int}:aQ K H Z 20e6 v↔v=.int n:=by dsimp[aQ]
theorem aZ{n:Bool}:aQ K H Z (.bl n) v↔v=.bl n:=by dsimp[aQ]
theorem bC{n:Str}:aQ K H Z (.str n) v↔v=.str n:=by dsimp[aQ]
theorem bT:aQ K H Z .non v↔v=.non:=by dsimp[aQ]
end
def um(K:W.Frag)(w:World)(H:Hp)(Z:List Addr):O->Addr->Prop
 |.lst xs,a=>∃vs,H a=some (.lst vs)/\Reps K H Z xs vs
 |.set ks,a=>∃ps:List KP,ps.map 3e3=ks/\H a=some 53e7/\(∀p∈ps,p.1∈prs)/\(ps.map 3e3).Nodup/\∀p∈ps,fS K H p.2 40e1
 |.iset ks,a=>∃ps:List KI,ps.map 3e3=ks/\H a=some 53e8/\ks.length<=6
 |.dic,a=>H a=some (.dK [])
 |.exc c,a=>∃C,W.nsIn K mainGlobals c=some 45e3/\H a=some (xA a C)
structure gD(K:W.Frag)(w:World)(H:Hp)(Z:List Addr)(Y:aB):Prop where
 len:Z.length=8e5
 nd:Z.Nodup
 ob:∀(n:Nat) o a,Y[n]?=some o->Z[n]?=some a->um K w H Z o a
section
variable{H':Hp}{Z':List Addr}{Y:aB}
theorem um.live{o:O}(h:um K w H Z o a):H a≠none:=by
 cases o with
 |lst xs=>obtain⟨vs,e,_⟩:=h;rw[e];exact fun z=>by cases z
 |set ks=>obtain⟨ps,_,e,_⟩:=h;rw[e];exact fun z=>by cases z
 |iset ks=>obtain⟨ps,_,e,_⟩:=h;rw[e];exact fun z=>by cases z
 |dic=>have e:H a=some (.dK []):=h;rw[e];exact fun z=>by cases z
 |exc c=>obtain⟨C,_,e⟩:=h;rw[e];exact fun z=>by cases z
theorem um.mono{o:O}(h:um K w H Z o a)(e:lV K H H' Z Z')(ha:H' a=H a):um K w H' Z' o a:=by
 cases o with
 |lst xs=>obtain⟨vs,q,r⟩:=h;exact⟨vs,ha.trans q,r.mono e⟩
 |set ks=>obtain⟨ps,h1,q,h2,h3,h4⟩:=h;exact⟨ps,h1,ha.trans q,h2,h3,fun p hp=>e.tup _ _ (h4 p hp)⟩
 |iset ks=>obtain⟨ps,h1,q,h2⟩:=h;exact⟨ps,h1,ha.trans q,h2⟩
 |dic=>exact ha.trans h
 |exc c=>obtain⟨C,h1,q⟩:=h;exact⟨C,h1,ha.trans q⟩
theorem gD.at(S:gD K w H Z Y){o:O}(e:Y[n]?=some o):∃a,Z[n]?=some a/\um K w H Z o a:=by
 have hn:n<Y.length:=(Ry.mp e).1;have hn':n<Z.length:=by rw[S.len];exact hn
 exact⟨Z[n],Vg hn',S.ob n o _ e (Vg hn')⟩
theorem gD.live(S:gD K w H Z Y)(h:a∈Z):H a≠none:=by
 obtain⟨n,hn,e⟩:=Vm h;have hm:n<Y.length:=by rw[<- S.len];exact hn
 exact(S.ob n _ a (Vg hm) (by rw[<- e];exact Vg hn)).live
theorem gD.fresh(S:gD K w H Z Y){p:Addr}(h:H p=none):p∉Z:=fun z=>S.live z h
theorem gD.same(S:gD K w H Z Y)(e:lV K H H' Z Z)(h:∀a,H a≠none->H' a=H a):gD K w H' Z Y:=
 ⟨S.len,S.nd,fun n o a h1 h2=>(S.ob n o a h1 h2).mono e (h a (S.ob n o a h1 h2).live)⟩
theorem bW{p:Addr}{o:HO}(h:H p=none):lV K H (cQ H p o) Z Z:=by
 refine⟨fun a xs q=>?_,fun a xs q=>?_,fun _ _ z=>z⟩
 ·rcases q with (q | ⟨x, q⟩) | q
  ·exact .inl (.inl (by rw[bF (cL q h)];exact q))
  ·exact .inl (.inr 74e4)
  ·exact .inr q
 ·rcases q with ⟨x, q⟩ | q
  ·exact .inl 74e4
  ·exact .inr q
theorem iL{p:Addr}{o:HO}(h:H p=some (.lst vs)):lV K H (cQ H p o) Z Z:=by
 refine⟨fun a xs q=>?_,fun a xs q=>?_,fun _ _ z=>z⟩
 ·rcases q with (q | ⟨x, q⟩) | q
  ·exact .inl 42e2
  ·exact .inl (.inr 12e0)
  ·exact .inr q
 ·rcases q with ⟨x, q⟩ | q
  ·exact .inl 12e0
  ·exact .inr q
theorem jN(β:List Addr):lV K H H Z (Z++β):=⟨fun _ _ h=>h,fun _ _ h=>h,fun n a h=>by rw[Sh (Ry.mp h).1];exact h⟩
theorem gD.tuple(S:gD K w H Z Y){p:Addr}(h:H p=none):gD K w (cQ H p (.tup vs)) Z Y:=
 S.same (bW h) fun a ha=>bF fun z=>ha (by rw[z];exact h)
theorem gD.more(S:gD K w H Z Y){p:Addr}{o:O}{ho:HO}(h:H p=none)(q:um K w (cQ H p ho) (Z++[p]) o p):gD K w (cQ H p ho) (Z++[p]) (Y++[o]):=by
 refine⟨by simp[S.len],?_,fun n o' a h1 h2=>?_⟩
 ·rw[UG];exact⟨S.nd,by simp,fun x hx y hy z=>by simp at hy;subst hy;subst z;exact S.fresh h hx⟩
 ·by_cases hn : n < Y.length
  ·rw[Sh hn]at h1;rw[Sh (by rw[S.len];exact hn)]at h2;exact(S.ob n o' a h1 h2).mono ((bW h).trans (jN [p])) (bF fun z=>(S.ob n o' a h1 h2).live (by rw[z];exact h))
  ·have hn':n=Y.length:=by
    have:=(Ry.mp h1).1;simp at this;omega
   subst hn';rw[Sf 7e5]at h1;rw[Sf (by rw[S.len];exact RT _),S.len]at h2;simp at h1 h2;subst h1;subst h2;exact q
theorem gD.put(S:gD K w H Z Y){xs ys:List D}{us:List V}(h1:Y[n]?=some 3e1)(h2:Z[n]?=some a)(h3:H a=some (.lst us))(q:Reps K H Z ys vs):gD K w (cQ H a (.lst vs)) Z (Y.set n 34e9):=by
 have e:=iL (K:=K) (Z:=Z) (o:=.lst vs) h3;refine⟨by simp[S.len],S.nd,fun m o b g1 g2=>?_⟩;have hn:n<Y.length:=(Ry.mp h1).1;by_cases hm:m=n
 ·subst hm;rw[RA hn]at g1;cases g1;rw[h2]at g2;cases g2;exact⟨vs,cf,q.mono e⟩
 ·rw[RB (fun z=>hm z.symm)]at g1;refine(S.ob m o b g1 g2).mono e (bF fun z=>hm ?_);subst z;have i1:=(Ry.mp g2);have i2:=(Ry.mp h2);obtain⟨l1,e1⟩:=i1;obtain⟨l2,e2⟩:=i2;exact(Rz S.nd).mp 73e6
end
structure dH(K:W.Frag)(H:Hp)(Z:List Addr)(ρ:Ro)(B:St):Prop where
 len:ρ.length=B.length
 at':∀(i:Nat) d,ρ[i]?=some (some d)->∃v,B[i]?=some (some v)/\aQ K H Z d v
theorem dH.mono{H':Hp}{Z':List Addr}{ρ:Ro}(e:lV K H H' Z Z')(R:dH K H Z ρ B):dH K H' Z' ρ B:=
 ⟨R.len,fun i d h=>let ⟨v,h1,h2⟩:=R.at' i d h;⟨v,h1,h2.mono e⟩⟩
theorem dH.set{ρ:Ro}{d:D}(R:dH K H Z ρ B)(i:Nat)(q:aQ K H Z d v):dH K H Z 70e3 37e8:=by
 refine⟨by simp[R.len],fun j d' h=>?_⟩;by_cases hj:j=i
 ·subst hj;have hl:j<ρ.length:=by have:=(Ry.mp h).1;simpa using this
  rw[RA hl]at h;cases h;exact⟨v,by rw[RA (by rw[<- R.len];exact hl)],q⟩
 ·rw[RB (fun z=>hj z.symm)]at h⊢;exact R.at' j d' h
structure DX where
 cls:Str
 args:List D
inductive ai(β:Type) where
 |ok (a:β) (Y:aB)|exc (x:DX) (Y:aB)|bad
def ai.bind{γ:Type}(o:ai β)(g:β->aB->ai γ):ai γ:=match o with
 |.ok a Y=>g a Y
 |.exc x Y=>.exc x Y
 |.bad=>.bad
@[simp] theorem aa{γ:Type}{a:β}{Y:aB}{g:β->aB->ai γ}:(ai.ok a Y).bind g=g a Y:=Vn 8e2
inductive SO where
 |next (ρ:Ro) (Y:aB)|ret (d:D) (Y:aB)|brk (ρ:Ro) (Y:aB)|cnt (ρ:Ro) (Y:aB)|exc (x:DX) (Y:aB)|bad
def ai.bindS(o:ai β)(g:β->aB->SO):SO:=match o with
 |.ok a Y=>g a Y
 |.exc x Y=>.exc x Y
 |.bad=>.bad
@[simp] theorem af{a:β}{Y:aB}{g:β->aB->SO}:(ai.ok a Y).bindS g=g a Y:=Vn 8e2
def SO.bind(o:SO)(g:Ro->aB->SO):SO:=match o with
 |.next ρ Y=>g ρ Y
 |o=>o
structure Pa where
 K:W.Frag
 w:World
 xw:DX->aB->Hp->List Addr->Prop
abbrev Pa.S(p:Pa):=gD p.K p.w
abbrev Pa.X(p:Pa):=lV p.K
abbrev Pa.R(p:Pa):=aQ p.K
abbrev Pa.Rs(p:Pa):=Reps p.K
def aH(p:Pa)(H:Hp)(Z:List Addr)(o:ai β)(R:β->aB->Hp->List Addr->Prop):Prop:=match o with
 |.ok a Y'=>∀H' Z',p.X H H' Z Z'->p.S H' Z' Y'->R a Y' H' Z'
 |.exc x Y'=>∀H' Z',p.X H H' Z Z'->p.S H' Z' Y'->p.xw x Y' H' Z'
 |.bad=>False
def eX(p:Pa)(H:Hp)(Z:List Addr)(o:SO)(D:qf):Prop:=match o with
 |.next ρ' Y'=>∀H' Z' B',p.X H H' Z Z'->p.S H' Z' Y'->dH p.K H' Z' ρ' B'->D.nx B' H'
 |.brk ρ' Y'=>∀H' Z' B',p.X H H' Z Z'->p.S H' Z' Y'->dH p.K H' Z' ρ' B'->D.bk B' H'
 |.cnt ρ' Y'=>∀H' Z' B',p.X H H' Z Z'->p.S H' Z' Y'->dH p.K H' Z' ρ' B'->D.ct B' H'
 |.ret d Y'=>∀H' Z' v,p.X H H' Z Z'->p.S H' Z' Y'->p.R H' Z' d v->D.rt v H'
 |.exc x Y'=>∀H' Z',p.X H H' Z Z'->p.S H' Z' Y'->p.xw x Y' H' Z'
 |.bad=>False
section
variable{p:Pa}{H1:Hp}{Z1:List Addr}{γ:Type}
theorem aH.imp{o:ai β}{R R':β->aB->Hp->List Addr->Prop}(h:aH p H Z o R)(k:∀a Y' H' Z',p.X H H' Z Z'->p.S H' Z' Y'->R a Y' H' Z'->R' a Y' H' Z'):aH p H Z o R':=by
 cases o with
 |ok a Y=>exact fun H' Z' e s=>k a Y H' Z' e s (h H' Z' e s)
 |exc x Y=>exact h
 |bad=>exact h
theorem aH.from{o:ai β}{R:β->aB->Hp->List Addr->Prop}(e:p.X H H1 Z Z1)(h:aH p H Z o R):aH p H1 Z1 o R:=by
 cases o with
 |ok a Y=>exact fun H' Z' e' s=>h H' Z' 47e1 s
 |exc x Y=>exact fun H' Z' e' s=>h H' Z' 47e1 s
 |bad=>exact h
theorem aH.bind{o:ai β}{g:β->aB->ai γ}{R:γ->aB->Hp->List Addr->Prop}(h:aH p H Z (o.bind g) R):aH p H Z o (fun a Y1 H1 Z1=>aH p H1 Z1 (g a Y1) R):=by
 cases o with
 |ok a Y=>exact fun H' Z' e s=>aH.from e h
 |exc x Y=>exact h
 |bad=>exact h
theorem aH.now{a:β}{Y:aB}{R:β->aB->Hp->List Addr->Prop}(h:aH p H Z (.ok a Y) R)(s:p.S H Z Y):R a Y H Z:=h H Z lV.refl s
theorem eX.from{o:SO}{D:qf}(e:p.X H H1 Z Z1)(h:eX p H Z o D):eX p H1 Z1 o D:=by
 cases o with
 |next ρ Y=>exact fun H' Z' B' e' s r=>h H' Z' B' 47e1 s r
 |brk ρ Y=>exact fun H' Z' B' e' s r=>h H' Z' B' 47e1 s r
 |cnt ρ Y=>exact fun H' Z' B' e' s r=>h H' Z' B' 47e1 s r
 |ret d Y=>exact fun H' Z' v e' s r=>h H' Z' v 47e1 s r
 |exc x Y=>exact fun H' Z' e' s=>h H' Z' 47e1 s
 |bad=>exact h
theorem aH.bindS{o:ai β}{g:β->aB->SO}{D:qf}(h:eX p H Z (o.bindS g) D):aH p H Z o (fun a Y1 H1 Z1=>eX p H1 Z1 (g a Y1) D):=by
 cases o with
 |ok a Y=>exact fun H' Z' e s=>eX.from e h
 |exc x Y=>exact h
 |bad=>exact h
end
abbrev ME:=Ro->aB->ai D
abbrev MT:=Ro->aB->ai Bool
abbrev MA:=Ro->aB->ai (List D)
abbrev MS:=Ro->aB->SO
abbrev MG:=D->Ro->aB->ai Ro
abbrev RV(p:Pa)(Q:VK):D->aB->Hp->List Addr->Prop:=fun d _ H' Z'=>∀v,p.R H' Z' d v->Q v H'
def tD(p:Pa)(f:ME):TE:=fun B H Q=>∃Z ρ Y,p.S H Z Y/\dH p.K H Z ρ B/\aH p H Z (f ρ Y) 35e4
def iA(p:Pa)(f:MT):TT:=fun B H Q=>∃Z ρ Y,p.S H Z Y/\dH p.K H Z ρ B/\aH p H Z (f ρ Y) (fun b _ H' _=>Q b H')
def nk(p:Pa)(f:MA):TA:=fun B H Q=>∃Z ρ Y,p.S H Z Y/\dH p.K H Z ρ B/\aH p H Z (f ρ Y) (fun ds _ H' Z'=>∀vs,p.Rs H' Z' ds vs->Q vs H')
def iV(p:Pa)(f:MS):TS:=fun D B H=>∃Z ρ Y,p.S H Z Y/\dH p.K H Z ρ B/\eX p H Z (f ρ Y) D
def pU(p:Pa)(g:MG):TG:=fun v B H Q=>∃Z ρ Y d,p.S H Z Y/\dH p.K H Z ρ B/\p.R H Z d v/\aH p H Z (g d ρ Y) 49e0
theorem PE.weak{X:Cx}{t t':TE}(h:PE X e t)(k:∀B H Q,t' B H Q->t B H Q):PE X e t':=fun pins s B H Q I q=>h pins s B H Q I 62e4
theorem PT.weak{X:Cx}{t t':TT}(h:PT X e t)(k:∀B H Q,t' B H Q->t B H Q):PT X e t':=fun pins s B H Q I q=>h pins s B H Q I 62e4
theorem PW.weak{X:Cx}{t t':TT}(h:PW X e t)(k:∀B H Q,t' B H Q->t B H Q):PW X e t':=fun wh pins s B H Q I q=>h wh pins s B H Q I 62e4
theorem PA.weak{X:Cx}{e:List Expr}{t t':TA}(h:PA X e t)(k:∀B H Q,t' B H Q->t B H Q):PA X e t':=fun pos pins s B H Q I q=>h pos pins s B H Q I 62e4
theorem PS.weak{X:Cx}{e:Stmt}{t t':TS}(h:PS X e t)(k:∀D B H,t' D B H->t D B H):PS X e t':=fun pins s B H Q I q=>h pins s B H Q I (k Q B H q)
theorem kn.weak{X:Cx}{e:List Stmt}{t t':TS}(h:kn X e t)(k:∀D B H,t' D B H->t D B H):kn X e t':=fun pins s B H Q I q=>h pins s B H Q I (k Q B H q)
def aj(i:Nat):ME:=fun ρ Y=>match ρ[i]? with
 |some (some d)=>.ok d Y
 |_=>.bad
def cC(d:D):ME:=fun _ Y=>.ok d Y
def ay(op:D->D->aB->ai D)(fa fb:ME):ME:=fun ρ Y=>(fa ρ Y).bind fun a Y1=>(fb ρ Y1).bind fun b Y2=>op a b Y2
def nq(op:D->aB->ai D)(fa:ME):ME:=fun ρ Y=>(fa ρ Y).bind fun a Y1=>op a Y1
def aA:MA:=fun _ Y=>.ok [] Y
def ag(fa:ME)(fr:MA):MA:=fun ρ Y=>(fa ρ Y).bind fun a Y1=>(fr ρ Y1).bind fun r Y2=>.ok (a::r) Y2
def aE(f:List D->aB->ai D)(fa:MA):ME:=fun ρ Y=>(fa ρ Y).bind f
def bY(fa:MA):ME:=aE (fun ds Y=>if ds.length<=sizeLine then .ok (.tup ds) Y else .bad) fa
def fD(fa:MA):ME:=aE (fun ds Y=>if ds.length<=sizeLine then .ok 0e7 (Y++[.lst ds]) else .bad) fa
def AR:D->aB->ai Bool
 |.bl b,Y=>.ok b Y
 |_,_=>.bad
def gr(f:ME):MT:=fun ρ Y=>(f ρ Y).bind AR
def lM(f g:MT):MT:=fun ρ Y=>(f ρ Y).bind fun b Y1=>if b=true then g ρ Y1 else .ok false Y1
def qd(f g:MT):MT:=fun ρ Y=>(f ρ Y).bind fun b Y1=>if b=true then .ok true Y1 else g ρ Y1
def gX(f:MT):MT:=fun ρ Y=>(f ρ Y).bind fun b Y1=>.ok (!b) Y1
def gY(f g:ME):ME:=fun ρ Y=>(f ρ Y).bind fun a Y1=>(AR a Y1).bind fun b Y2=>if b=true then g ρ Y2 else .ok 4e4 Y2
def xP(f:ME):ME:=fun ρ Y=>(f ρ Y).bind fun a Y1=>(AR a Y1).bind fun b Y2=>.ok (.bl (!b)) Y2
def J3(c:MT)(f g:ME):ME:=fun ρ Y=>(c ρ Y).bind fun b Y1=>if b=true then f ρ Y1 else g ρ Y1
def pX(p:Pa)(op:D->D->aB->ai D)(r:R2):Prop:=∀a b v y H Z Y Q,p.S H Z Y->p.R H Z a v->p.R H Z b y->aH p H Z (op a b Y) 35e4->r v y H Q
def QO(p:Pa)(op:D->aB->ai D)(r:V->Hp->VK->Prop):Prop:=∀a v H Z Y Q,p.S H Z Y->p.R H Z a v->aH p H Z (op a Y) 35e4->r v H Q
def zr(p:Pa)(f:List D->aB->ai D)(r:List V->Hp->VK->Prop):Prop:=∀ds vs H Z Y Q,p.S H Z Y->p.Rs H Z ds vs->aH p H Z (f ds Y) 35e4->r vs H Q
section
variable{p:Pa}
theorem oh{d:D}{Y:aB}{R:Bool->aB->Hp->List Addr->Prop}(h:aH p H Z (AR d Y) R)(r:p.R H Z d v)(s:p.S H Z Y):∃b,d=.bl b/\v=.bl b/\R b Y H Z:=by
 cases d with
 |bl b=>exact⟨b,rfl,aZ.mp r,h.now s⟩
 |non=>exact h.elim
 |int i=>exact h.elim
 |str x=>exact h.elim
 |tup xs=>exact h.elim
 |frz xs=>exact h.elim
 |obj n=>exact h.elim
variable{X:Cx}{a b:Expr}{es:List Expr}{fa fb fc:ME}
theorem K7(h:PE X 19e6 (NH i)):PE X 19e6 (tD p (aj i)):=h.weak fun B H Q ⟨Z,ρ,Y,S,R,P⟩=>by
 unfold aj at P;cases e:ρ[i]? with
 |none=>rw[e]at P;exact P.elim
 |some o=>
  rw[e]at P;cases o with
  |none=>exact P.elim
  |some d=>
   obtain⟨v,h1,h2⟩:=R.at' i d e;exact⟨v,h1,P.now S v h2⟩
theorem Dp{d:D}(h:PE X e (tC v))(r:∀H Z,p.R H Z d v):PE X e (tD p (cC d)):=h.weak fun B H Q ⟨Z,ρ,Y,S,R,P⟩=>P.now S v (r H Z)
theorem nY{op:Operator}{o:D->D->aB->ai D}{r:R2}(ho:jW X (binaryOp op) r)(hd:pX p o r)(ha:PE X a 24e9)(hb:PE X b 44e3):PE X (.BinOp a op b pos) (tD p 66e9):=
 (OT ho ha hb).weak fun B H Q ⟨Z,ρ,Y,S,R,P⟩=>⟨Z,ρ,Y,S,R,P.bind.imp fun x Y1 H1 Z1 X1 S1 P1 v rv=>⟨Z1,ρ,Y1,S1,R.mono X1,P1.bind.imp fun y Y2 H2 Z2 X2 S2 P2 u ru=>hd x y v u H2 Z2 Y2 Q S2 29e6 ru P2⟩⟩
theorem Ld{o:D->D->aB->ai D}{r:R2}(ho:jW X 19e1 r)(hd:pX p o r)(ha:PE X a 24e9)(hb:PE X b 44e3)(hm:behindInMarks op b=false):PE X 17e5 (tD p 66e9):=
 (Ib ho ha hb hm).weak fun B H Q ⟨Z,ρ,Y,S,R,P⟩=>⟨Z,ρ,Y,S,R,P.bind.imp fun x Y1 H1 Z1 X1 S1 P1 v rv=>⟨Z1,ρ,Y1,S1,R.mono X1,P1.bind.imp fun y Y2 H2 Z2 X2 S2 P2 u ru=>hd x y v u H2 Z2 Y2 Q S2 29e6 ru P2⟩⟩
theorem KM{o:D->D->aB->ai D}{r:R2}(ho:jW X 19e1 r)(hd:pX p o r)(ha:PE X a 24e9)(hb:PE X b 44e3)(hm:behindInMarks op b=false):PT X 17e5 (iA p (gr 66e9)):=
 (HK ho ha hb hm).weak fun B H Q ⟨Z, ρ, Y, S, R, P⟩ => ⟨Z, ρ, Y, S, R, P.bind.bind.imp fun x Y1 H1 Z1 X1 S1 P1 v rv => ⟨Z1, ρ, Y1, S1, R.mono X1, P1.bind.imp fun y Y2 H2 Z2 X2 S2 P2 u ru =>
  hd x y v u H2 Z2 Y2 _ S2 29e6 ru (P2.imp fun d Y3 H3 Z3 X3 S3 P3 z rz=>by
   obtain⟨k,_,e,q⟩:=oh P3 rz S3
   exact⟨k,e,q⟩)⟩⟩
theorem OG{op:UnaryOp}{o:D->aB->ai D}{r:V->Hp->VK->Prop}(ho:Pr X (unaryOp op) r)(hd:QO p o r)(ha:PE X a 24e9):PE X (.UnaryOp op a pos) (tD p (nq o fa)):=
 (OS ho ha).weak fun B H Q ⟨Z,ρ,Y,S,R,P⟩=>⟨Z,ρ,Y,S,R,P.bind.imp fun x Y1 H1 Z1 X1 S1 P1 v rv=>hd x v H1 Z1 Y1 Q S1 rv P1⟩
theorem Lf:PA X [] (nk p aA):=sM.weak fun B H Q ⟨Z,ρ,Y,S,R,P⟩=>P.now S [] Reps.nil
theorem HB{fr:MA}(ha:PE X a 24e9)(hr:PA X es 14e8)(hs:starEach (a::es) 2e1=(false,eval a 2e1)::starEach es 2e1):PA X (a::es) (nk p (ag fa fr)):=
 (jZ ha hr hs).weak fun B H Q ⟨Z,ρ,Y,S,R,P⟩=>⟨Z,ρ,Y,S,R,P.bind.imp fun x Y1 H1 Z1 X1 S1 P1 v rv=>⟨Z1,ρ,Y1,S1,R.mono X1,P1.bind.imp fun y Y2 H2 Z2 X2 S2 P2 us ru=>P2.now S2 _ (Reps.cons 29e6 ru)⟩⟩
theorem K8{k:Nat}{fr:MA}(h:PA X es 14e8):PE X 41e8 (tD p (bY fr)):=
 (LD h).weak fun B H Q ⟨Z, ρ, Y, S, R, P⟩ => ⟨Z, ρ, Y, S, R, P.bind.imp fun ds Y1 H1 Z1 X1 S1 P1 vs rv => by
  by_cases hl:ds.length<=sizeLine
  ·rw[Rc hl]at P1;refine⟨by rw[53e3];exact hl,fun q hq=>?_⟩;exact P1 _ _ 61e0 (S1.tuple hq) _ (aN.mpr ⟨q,vs,rfl,fS.of cf,rv.mono 61e0⟩)
  ·rw [Re hl] at P1
   exact P1.elim⟩
theorem dB{Y:aB}{ds:List D}{q:Addr}(S:p.S H Z Y)(hq:H q=none)(rv:p.Rs H Z ds vs):
  p.X H 53e9 Z (Z++[q])/\p.S 53e9 (Z++[q]) (Y++[.lst ds])/\p.R 53e9 (Z++[q]) 0e7 (.ref q):=by
 have X1:p.X H 53e9 Z (Z++[q]):=(bW hq).trans (jN [q]);exact⟨X1,S.more hq ⟨vs,cf,rv.mono X1⟩,aU.mpr ⟨q,rfl,by rw[<- S.len];simp⟩⟩
theorem La{fr:MA}(h:PA X es 14e8):PE X (.List es pos) (tD p (fD fr)):=
 (LJ h).weak fun B H Q ⟨Z, ρ, Y, S, R, P⟩ => ⟨Z, ρ, Y, S, R, P.bind.imp fun ds Y1 H1 Z1 X1 S1 P1 vs rv => by
  by_cases hl:ds.length<=sizeLine
  ·rw[Rc hl]at P1;refine⟨by rw[53e3];exact hl,fun q hq=>?_⟩;obtain⟨x1,x2,x3⟩:=dB S1 hq rv;exact P1 _ _ x1 x2 _ x3
  ·rw [Re hl] at P1
   exact P1.elim⟩
variable{ft gt:MT}
theorem KJ(ha:PT X a 21e3)(hb:PW X 14e6 (iA p gt)):PW X 13e2 (iA p (lM ft gt)):=
 (Ln ha hb).weak fun B H Q ⟨Z, ρ, Y, S, R, P⟩ => ⟨Z, ρ, Y, S, R, P.bind.imp fun k Y1 H1 Z1 X1 S1 P1 => by
  cases k with
  |true=>rw[Rc rfl]at P1⊢;exact⟨Z1,ρ,Y1,S1,R.mono X1,P1⟩
  |false=>rw[Re RL]at P1⊢;exact P1.now S1⟩
theorem OB(ha:PT X a 21e3)(hb:PW X 49e2 (iA p gt)):PW X 41e7 (iA p (qd ft gt)):=
 (OQ ha hb).weak fun B H Q ⟨Z, ρ, Y, S, R, P⟩ => ⟨Z, ρ, Y, S, R, P.bind.imp fun k Y1 H1 Z1 X1 S1 P1 => by
  cases k with
  |true=>rw[Rc rfl]at P1⊢;exact P1.now S1
  |false=>rw[Re RL]at P1⊢;exact⟨Z1,ρ,Y1,S1,R.mono X1,P1⟩⟩
theorem KL(ha:PT X a 21e3):PT X 24e5 (iA p (gX ft)):=
 (Lo ha).weak fun B H Q ⟨Z,ρ,Y,S,R,P⟩=>⟨Z,ρ,Y,S,R,P.bind.imp fun k Y1 H1 Z1 X1 S1 P1=>P1.now S1⟩
theorem Le(ha:PE X a 24e9)(hb:PE X 14e6 44e3):PE X 13e2 (tD p (gY fa fb)):=
 (LL ha hb).weak fun B H Q ⟨Z, ρ, Y, S, R, P⟩ => ⟨Z, ρ, Y, S, R, P.bind.imp fun d Y1 H1 Z1 X1 S1 P1 v rv => by
  obtain⟨k,_,e,q⟩:=oh P1.bind rv S1;refine⟨k,e,?_⟩;cases k with
  |true=>rw[Rc rfl]at q⊢;exact⟨Z1,ρ,Y1,S1,R.mono X1,q⟩
  |false=>rw[Re RL]at q⊢;exact q.now S1 _ 24e0⟩
theorem K9(ha:PE X a 24e9):PE X 24e5 (tD p (xP fa)):=
 (LH ha).weak fun B H Q ⟨Z, ρ, Y, S, R, P⟩ => ⟨Z, ρ, Y, S, R, P.bind.imp fun d Y1 H1 Z1 X1 S1 P1 v rv => by
  obtain⟨k,_,e,q⟩:=oh P1.bind rv S1
  exact⟨k,e,q.now S1 _ 24e0⟩⟩
theorem OI(hc:PT X c 21e3)(ha:PE X a 24e9)(hb:PE X b 44e3):PE X 73e7 (tD p (J3 ft fa fb)):=
 (Fw hc ha hb).weak fun B H Q ⟨Z, ρ, Y, S, R, P⟩ => ⟨Z, ρ, Y, S, R, P.bind.imp fun k Y1 H1 Z1 X1 S1 P1 => by
  cases k with
  |true=>rw[Rc rfl]at P1⊢;exact⟨Z1,ρ,Y1,S1,R.mono X1,P1⟩
  |false=>rw[Re RL]at P1⊢;exact⟨Z1,ρ,Y1,S1,R.mono X1,P1⟩⟩
theorem Fb{id:String}{f:List D->aB->ai D}{fr:MA}{r:List V->Hp->VK->Prop}(hc:du X 29e4 r)(hd:zr p f r)(hg:Gl X x)(hm:X.mg x=none)(hv:bootBuiltins x=some 29e4)(ha:PA X (a::es) 14e8)(hn:x ≠ "__name__")(hdb:(x == ("__debug__" : Str))=false)(he:starEach (a::es) 2e1=(false,eval a 2e1)::starEach es 2e1)(hpl:(backTo pos 7e7).any 3e3=false):PE X 7e8 (tD p (aE f fr)):=
 (ph hc hg hm hv ha hn hdb he hpl).weak fun B H Q ⟨Z,ρ,Y,S,R,P⟩=>⟨Z,ρ,Y,S,R,P.bind.imp fun ds Y1 H1 Z1 X1 S1 P1 vs rv=>hd ds vs H1 Z1 Y1 Q S1 rv P1⟩
theorem Cc{T:String}{f:List D->aB->ai D}{fr:MA}{r:List V->Hp->VK->Prop}(hc:du X 44e0 r)(hd:zr p f r)(hg:Gl X x)(hm:X.mg x=none)(hv:bootBuiltins x=some 44e0)(ha:PA X (a::es) 14e8)(hn:x ≠ "__name__")(hdb:(x == ("__debug__" : Str))=false)(he:starEach (a::es) 2e1=(false,eval a 2e1)::starEach es 2e1)(hpl:(backTo pos 7e7).any 3e3=false):PE X 7e8 (tD p (aE f fr)):=
 (u4 hc hg hm hv ha hn hdb he hpl).weak fun B H Q ⟨Z,ρ,Y,S,R,P⟩=>⟨Z,ρ,Y,S,R,P.bind.imp fun ds Y1 H1 Z1 X1 S1 P1 vs rv=>hd ds vs H1 Z1 Y1 Q S1 rv P1⟩
end
def cJ(f:ME):MS:=fun ρ Y=>(f ρ Y).bindS fun d Y'=>.ret d Y'
def dU:MS:=fun ρ Y=>.next ρ Y
def GH:MS:=fun _ _=>.bad
def bo(f g:MS):MS:=fun ρ Y=>(f ρ Y).bind g
def lT(c:MT)(f g:MS):MS:=fun ρ Y=>(c ρ Y).bindS fun b Y1=>if b=true then f ρ Y1 else g ρ Y1
def bx(f:ME)(g:MG):MS:=fun ρ Y=>(f ρ Y).bindS fun d Y1=>(g d ρ Y1).bindS fun ρ' Y2=>.next ρ' Y2
def lH(f:ME):MS:=fun ρ Y=>(f ρ Y).bindS fun _ Y1=>.next ρ Y1
def Dr(i:Nat)(op:D->D->aB->ai D)(f:ME):MS:=fun ρ Y=>(aj i ρ Y).bindS fun a Y0=>(f ρ Y0).bindS fun b Y1=>(op a b Y1).bindS fun c Y2=>.next (ρ.set i (some c)) Y2
def ak(i:Nat):MG:=fun d ρ Y=>.ok 70e3 Y
abbrev GD:=List D->Ro->aB->ai Ro
def cV:GD:=fun ds ρ Y=>match ds with
 |[]=>.ok ρ Y
 |_::_=>.bad
def aV(g:MG)(u:GD):GD:=fun ds ρ Y=>match ds with
 |[]=>.bad
 |d::r=>(g d ρ Y).bind fun ρ' Y'=>u r ρ' Y'
def cU(n:Nat)(u:GD):MG:=fun d ρ Y=>match d with
 |.tup xs=>if xs.length=n then u xs ρ Y else .bad
 |_=>.bad
def zD(o i v:D)(Y:aB):ai Unit:=match o,i with
 |.obj n,.int k=>match Y[n]? with
  |some 3e1=>match xj 4e2 k with
   |some j=>.ok () (Y.set n 69e5)
   |none=>.bad
  |_=>.bad
 |_,_=>.bad
def nH(fo fi:ME):MG:=fun d ρ Y=>(fo ρ Y).bind fun o Y1=>(fi ρ Y1).bind fun i Y2=>(zD o i d Y2).bind fun _ Y3=>.ok ρ Y3
def xo(p:Pa)(g:GD):GA:=fun vs B H Q=>∃Z ρ Y ds,p.S H Z Y/\dH p.K H Z ρ B/\p.Rs H Z ds vs/\aH p H Z (g ds ρ Y) 49e0
theorem PG.weak{X:Cx}{t t':TG}(h:PG X e t)(k:∀v B H Q,t' v B H Q->t v B H Q):PG X e t':=fun pins s B H v u Q I r q=>h pins s B H v u Q I r (k v B H Q q)
theorem zw.weak{X:Cx}{e:List Expr}{t t':GA}(h:zw X e t)(k:∀v B H Q,t' v B H Q->t v B H Q):zw X e t':=fun pins s B H v u Q I r q=>h pins s B H v u Q I r (k v B H Q q)
theorem PI.weak{X:Cx}{t t':TI}(h:PI X tg e t)(k:∀B H R,t' B H R->t B H R):PI X tg e t':=fun pins s B H Q I q=>h pins s B H Q I 62e4
section
variable{p:Pa}{X:Cx}{a b:Expr}{es:List Expr}{f:ME}{g:MG}{u:GD}{sts:List Stmt}{fs gs:MS}{ft:MT}
theorem KR:kn X [] (iV p dU):=HM.weak fun D B H ⟨Z,ρ,Y,S,R,P⟩=>P H Z B lV.refl S R
theorem E5{t u:TS}{D:qf}{B:St}{H:Hp}{Z:List Addr}{o:SO}{k:MS}(h:eX p H Z (o.bind k) D)
  (hk:∀D B H,iV p k D B H->u D B H):eX p H Z o {D with nx:=u D}:=by
 cases o with
 |next ρ Y=>exact fun H' Z' B' e s r=>hk _ _ _ ⟨Z',ρ,Y,s,r,eX.from e h⟩
 |brk ρ Y=>exact h
 |cnt ρ Y=>exact h
 |ret d Y=>exact h
 |exc x Y=>exact h
 |bad=>exact h
theorem Hg(h1:PS X st 50e7)(h2:kn X sts (iV p gs)):kn X (st::sts) (iV p (bo fs gs)):=
 (Fl h1 h2).weak fun D B H ⟨Z,ρ,Y,S,R,P⟩=>⟨Z,ρ,Y,S,R,E5 (t:=iV p fs) (B:=B) P fun _ _ _ z=>z⟩
theorem KQ(h1:PS X st 50e7):kn X [st] 50e7:=HL h1
theorem KO(h:PE X e 67e0):PS X 59e9 (iV p (cJ f)):=
 (Lr h).weak fun D B H ⟨Z,ρ,Y,S,R,P⟩=>⟨Z,ρ,Y,S,R,(aH.bindS P).imp fun d Y1 H1 Z1 X1 S1 P1 v rv=>P1 H1 Z1 v lV.refl S1 rv⟩
theorem EN:PS X st (iV p GH):=Fp.weak fun D B H ⟨Z,ρ,Y,S,R,P⟩=>P
theorem OC{A σ:List Stmt}(hc:PT X c 21e3)(ha:kn X A 50e7)(hb:kn X σ (iV p gs)):PS X (.If c A σ pos) (iV p (lT ft fs gs)):=
 (OR hc ha hb).weak fun D B H ⟨Z, ρ, Y, S, R, P⟩ => ⟨Z, ρ, Y, S, R, (aH.bindS P).imp fun k Y1 H1 Z1 X1 S1 P1 => by
  cases k with
  |true=>rw[Rc rfl]at P1⊢;exact⟨Z1,ρ,Y1,S1,R.mono X1,P1⟩
  |false=>rw[Re RL]at P1⊢;exact⟨Z1,ρ,Y1,S1,R.mono X1,P1⟩⟩
theorem yS{D:qf}(h:iV p (bx f g) D B H):Dn 67e0 (pU p g) D B H:=by
 obtain⟨Z,ρ,Y,S,R,P⟩:=h;exact⟨Z,ρ,Y,S,R,(aH.bindS P).imp fun d Y1 H1 Z1 X1 S1 P1 v rv=>⟨Z1,ρ,Y1,d,S1,R.mono X1,rv,(aH.bindS P1).imp fun ρ' Y2 H2 Z2 X2 S2 P2 B' r'=>P2 H2 Z2 B' lV.refl S2 r'⟩⟩
theorem KW(he:PE X e 67e0)(hg:PG X tg (pU p g))(hs:swapsWithSole [tg] e pos.line 2e1=pure false)(hw:swappedStores [tg] e 2e1=pure none)
  (h1:(assignEach [tg] 2e1).map 30e8=[assign tg 2e1]):PS X 66e2 (iV p (bx f g)):=(Lx he hg hs hw h1).weak fun D B H h=>yS h
theorem tO{Q:St->Hp->Prop}(h:pU p (ak i) v B H Q):xH i v B H Q:=by
 obtain⟨Z,ρ,Y,d,S,R,r,P⟩:=h;exact P.now S _ (R.set i r)
theorem Ht(hN:X.N.Nodup)(hi:X.N[i]?=some x)(hx:BH 16e5 x)(hf:X.fn x=true\/X.env.scope.names.lookup x=some .local):PG X 19e6 (pU p (ak i)):=
 (HW hN hi hx hf).weak fun v B H Q h=>tO h
theorem KN(hN:X.N.Nodup)(hi:X.N[i]?=some x)(hx:BH 16e5 x)(he:PE X e 67e0)(hs:swapsWith e (some 43e8) pos.line 2e1=pure false)(hf:X.fn x=true\/X.env.scope.names.lookup x=some .local):
  PS X 41e9 (iV p (bx f (ak i))):=(Lq hN hi hx he hs hf).weak fun D B H h=>by
 obtain⟨Z,ρ,Y,S,R,P⟩:=yS h;exact⟨Z,ρ,Y,S,R,P.imp fun d Y1 H1 Z1 X1 S1 P1 v rv=>tO (P1 v rv)⟩
theorem Hf(he:PE X e 67e0)(hs:swapsWith e none pos.line 2e1=pure false):PS X (.Expr e pos) (iV p (lH f)):=
 (HP he hs).weak fun D B H ⟨Z,ρ,Y,S,R,P⟩=>⟨Z,ρ,Y,S,R,(aH.bindS P).imp fun d Y1 H1 Z1 X1 S1 P1 v rv=>P1 H1 Z1 B lV.refl S1 (R.mono X1)⟩
theorem Hs:zw X [] (xo p cV):=HV.weak fun vs B H Q ⟨Z,ρ,Y,ds,S,R,r,P⟩=>by
 cases ds with
 |nil=>dsimp[Reps]at r;exact⟨r,P.now S B R⟩
 |cons d ds=>exact P.elim
theorem E1(h1:PG X e (pU p g))(h2:zw X es (xo p u))(hs:(assignEach (e::es) 2e1).map 30e8=assign e 2e1::(assignEach es 2e1).map 30e8):zw X (e::es) (xo p (aV g u)):=
 (Fu h1 h2 hs).weak fun vs B H Q ⟨Z, ρ, Y, ds, S, R, r, P⟩ => by
  cases ds with
  |nil=>exact P.elim
  |cons d ds=>
   dsimp[Reps]at r;obtain⟨v,vr,rfl,r1,r2⟩:=r;refine⟨v,vr,rfl,Z,ρ,Y,d,S,R,r1,?_⟩;exact(aH.bind (o:=g d ρ Y) P).imp fun ρ' Y1 H1 Z1 X1 S1 P1 B' r'=>⟨Z1,ρ',Y1,ds,S1,r',r2.mono X1,P1⟩
theorem K5{k:Nat}(hK:X.K=p.K)(hc:X.calm=true)(h:zw X es (xo p u))(hn:(assignEach es 2e1).length=n)(hst:(assignEach es 2e1).findIdx? 3e3=none):PG X 41e8 (pU p (cU n u)):=
 (LA hc h hn hst).weak fun v B H Q ⟨Z, ρ, Y, d, S, R, r, P⟩ => by
  cases d with
  |tup xs=>
   obtain⟨a,vs,rfl,h1,h2⟩:=aN.mp r;have P':aH p H Z (if xs.length=n then u xs ρ Y else .bad) _:=P;by_cases hl:xs.length=n
   ·rw[Rc hl]at P';exact⟨a,vs,rfl,by rw[hK];exact h1,by rw[h2.length];exact hl,Z,ρ,Y,xs,S,R,h2,P'⟩
   ·rw[Re hl]at P';exact P'.elim
  |non=>exact P.elim
  |bl b=>exact P.elim
  |int i=>exact P.elim
  |str x=>exact P.elim
  |frz xs=>exact P.elim
  |obj n=>exact P.elim
theorem Hv{o i d:D}{Y:aB}{R:Unit->aB->Hp->List Addr->Prop}{vo vi:V}(S:p.S H Z Y)(ro:p.R H Z o vo)(ri:p.R H Z i vi)(rv:p.R H Z d v)(P:aH p H Z (zD o i d Y) R):
  JC vo vi v H fun H'=>∃Y',p.X H H' Z Z/\p.S H' Z Y'/\R () Y' H' Z:=by
 unfold zD at P;split at P
 ·rename_i n k;split at P
  ·rename_i xs hx;split at P
   ·rename_i j hj;obtain⟨a,ea,us,hH,rr⟩:=S.at hx;obtain⟨a',rfl,ea'⟩:=aU.mp ro;rw[ea]at ea';cases ea';rw[ax.mp ri];have q:=rr.set rv j;refine⟨a,us,k,j,rfl,rfl,hH,by rw[58e8];exact hj,_,iL hH,S.put hx ea hH q,?_⟩;exact P _ _ (iL hH) (S.put hx ea hH q)
   ·exact P.elim
  ·exact P.elim
 ·exact P.elim
theorem K6{o i:Expr}{fo fi:ME}(ho:PE X o (tD p fo))(hi:PE X i (tD p fi))
  (ha : ∀ v, assign 45e7 2e1 v = (do
   let ov <- holding [v] (eval o 2e1)
   let iv <- holding [v,ov] (eval i 2e1)
   standAt pos
   holding [v,ov,iv] (setItem ov iv v)
   release [v,ov,iv] [])):PG X 45e7 (pU p (nH fo fi)):=
 (LB ho hi E2 ha).weak fun v B H Q ⟨Z, ρ, Y, d, S, R, r, P⟩ => ⟨Z, ρ, Y, S, R, (aH.bind P).imp fun od Y1 H1 Z1 X1 S1 P1 vo ro => ⟨Z1, ρ, Y1, S1, R.mono X1, (aH.bind P1).imp fun id Y2 H2 Z2 X2 S2 P2 vi ri => by
  obtain⟨pp,xs,k,j,e1,e2,e3,e4,Y3,x3,s3,q⟩:=Hv S2 (ro.mono X2) ri ((r.mono X1).mono X2) (aH.bind P2)
  exact⟨pp,xs,k,j,e1,e2,e3,e4,q.now s3 B (((R.mono X1).mono X2).mono x3)⟩⟩⟩
theorem KU{op:Operator}{o:D->D->aB->ai D}{r:R2}(hN:X.N.Nodup)(hi:X.N[i]?=some x)(hx:BH 16e5 x)(he:PE X e 67e0)(ho:Pt X op r)(hd:pX p o r)(hf:X.fn x=true\/X.env.scope.names.lookup x=some .local):
  PS X (.AugAssign 43e8 op e pos) (iV p (Dr i o f)):=(Lu hN hi hx he ho hf).weak fun D B H ⟨Z,ρ,Y,S,R,P⟩=>by
 unfold Dr aj at P;cases er:ρ[i]? with
 |none=>rw[er]at P;exact P.elim
 |some oo=>
  rw[er]at P;cases oo with
  |none=>exact P.elim
  |some d=>
   obtain⟨v,h1,h2⟩:=R.at' i d er;have P':eX p H Z ((f ρ Y).bindS fun b Y1=>(o d b Y1).bindS fun c Y2=>.next (ρ.set i (some c)) Y2) D:=P;refine⟨v,h1,Z,ρ,Y,S,R,(aH.bindS P').imp fun y Y1 H1 Z1 X1 S1 P1 u ru=>?_⟩;exact hd d y v u H1 Z1 Y1 _ S1 (h2.mono X1) ru ((aH.bindS P1).imp fun z Y2 H2 Z2 X2 S2 P2 t rt=>P2 H2 Z2 _ lV.refl S2 (((R.mono X1).mono X2).set i rt))
end
inductive pW where
 |fix (xs:List D)|own (n:Nat) (xs:List D)|eno (n:Nat) (xs:List D)
def fW:Nat->List D->List D
 |_,[]=>[]
 |i,x::r=>.tup [.int i,x]::fW (i+1) r
theorem vp:∀{xs:List D}{k i:Nat},(fW k xs)[i]?=(xs[i]?).map fun x=>D.tup [.int ((k+i:Nat):Int),x]
 |[],_,_=>by simp[fW]
 |x::r,k,0=>by simp[fW]
 |x::r,k,i+1=>by
  dsimp[fW,Vp];rw[vp (xs:=r) (k:=k+1) (i:=i)];congr 1;funext y;congr 4;omega
theorem vn:∀{xs:List D}{k:Nat},(fW k xs).length=4e2
 |[],_=>rfl
 |x::r,k=>by simp[fW,vn (xs:=r)]
def pW.items:pW->List D
 |.fix xs=>xs
 |.own _ xs=>xs
 |.eno _ xs=>fW 0 xs
def cO:pW->aB->Prop
 |.fix _,_=>True
 |.own n xs,Y=>Y[n]?=some 3e1
 |.eno n xs,Y=>Y[n]?=some 3e1
def zF(p:Pa)(J:It)(src:pW)(H0:Hp)(Z0:List Addr):Prop:=
 ∀H2 Z2 Y2,p.X H0 H2 Z0 Z2->p.S H2 Z2 Y2->cO src Y2 ->
  (∀(i:Nat) d,src.items[i]?=some d->J.go i H2/\∀x H3,J.yld i H2 x H3->p.X H2 H3 Z2 Z2/\p.S H3 Z2 Y2/\p.R H3 Z2 d x)/\J.stop src.items.length H2
abbrev MI:=Ro->aB->ai pW
def su(p:Pa)(f:MI):TI:=fun B H R=>∃Z ρ Y,p.S H Z Y/\dH p.K H Z ρ B/\aH p H Z (f ρ Y) (fun src Y' H' Z'=>∀J,cO src Y'->zF p J src H' Z'->R J H')
def SO.loop(o:SO)(k:Ro->aB->SO):SO:=match o with
 |.next ρ Y=>k ρ Y
 |.cnt ρ Y=>k ρ Y
 |.brk ρ Y=>.next ρ Y
 |.ret d Y=>.ret d Y
 |.exc x Y=>.exc x Y
 |.bad=>.bad
open Classical in
def iX(src:pW)(g:MG)(fb:MS):List D->Ro->aB->SO
 |[],ρ,Y=>if cO src Y then .next ρ Y else .bad
 |d::r,ρ,Y=>if cO src Y then (g d ρ Y).bindS fun ρ' Y'=>(fb ρ' Y').loop (iX src g fb r) else .bad
def lU(fi:MI)(g:MG)(fb:MS):MS:=fun ρ Y=>(fi ρ Y).bindS fun src Y1=>iX src g fb src.items ρ Y1
def jK(c:MT)(fb:MS):Nat->Ro->aB->SO
 |0,_,_=>.bad
 |n+1,ρ,Y=>(c ρ Y).bindS fun b Y1=>if b=true then (fb ρ Y1).loop (jK c fb n) else .next ρ Y1
def qg(n:Nat)(c:MT)(fb:MS):MS:=jK c fb n
section
variable{p:Pa}{X:Cx}{fi:MI}{g:MG}{fb:MS}{ft:MT}
theorem u7{o:SO}{k:Ro->aB->SO}{D:qf}{N:St->Hp->Prop}(h:eX p H Z (o.loop k) D)(hN:∀ρ Y H' Z' B',p.X H H' Z Z'->p.S H' Z' Y->dH p.K H' Z' ρ B'->eX p H' Z' (k ρ Y) D->N B' H'):eX p H Z o {D with nx:=N,ct:=N,bk:=D.nx}:=by
 cases o with
 |next ρ Y=>exact fun H' Z' B' e s r=>hN ρ Y H' Z' B' e s r (eX.from e h)
 |cnt ρ Y=>exact fun H' Z' B' e s r=>hN ρ Y H' Z' B' e s r (eX.from e h)
 |brk ρ Y=>exact h
 |ret d Y=>exact h
 |exc x Y=>exact h
 |bad=>exact h
theorem KS(hp:PassesOwn 1e1 X.A 2e1 X.xe)(hc:X.calm=true)(hi:PI X tg iter 70e4)(hg:PG X tg (pU p g))(hb:kn X body (iV p fb))(hs:∀x,foldedSetIterable iter 2e1 x=pure x) :
  PS X 51e4 (iV p (lU fi g fb)):=(Ls hp hc hi hg hb hs).weak fun D B H ⟨Z,ρ,Y,S,R,P⟩=>by
 refine⟨Z,ρ,Y,S,R,(aH.bindS P).imp fun src Y1 H1 Z1 X1 S1 P1 J hok hJ=>?_⟩
 refine⟨fun i m B2 H2=>m=src.items.length-i/\i<=src.items.length/\∃Z2 ρ2 Y2,p.X H1 H2 Z1 Z2/\p.S H2 Z2 Y2/\dH p.K H2 Z2 ρ2 B2/\eX p H2 Z2 (iX src g fb 74e5 ρ2 Y2) D,
  ⟨_,rfl,TJ _,Z1,ρ,Y1,lV.refl,S1,R.mono X1,by simpa using P1⟩,?_⟩
 rintro i m B2 H2 ⟨rfl,hi,Z2,ρ2,Y2,X2,S2,R2,P2⟩
 by_cases hlt:i<src.items.length
 ·rw [Vq hlt] at P2;unfold iX at P2;by_cases ho:cO src Y2
  ·rw [Rc ho] at P2;obtain⟨hgo,hy⟩:=(hJ H2 Z2 Y2 X2 S2 ho).1 i _ (Vg hlt)
   refine .inr ⟨hgo,fun B' H'=>i+1<=src.items.length/\∃Z2 ρ2 Y2,p.X H1 H' Z1 Z2/\p.S H' Z2 Y2/\dH p.K H' Z2 ρ2 B'/\eX p H' Z2 (iX src g fb 61e1 ρ2 Y2) D,
    fun B' H' ⟨h1,h2⟩=>⟨_,by omega,rfl,h1,h2⟩,fun x H3 yx=>?_⟩
   obtain⟨X3,S3,R3⟩:=hy x H3 yx;refine⟨Z2,ρ2,Y2,_,S3,R2.mono X3,R3,(aH.from X3 (aH.bindS P2)).imp fun ρ4 Y4 H4 Z4 X4 S4 P4 B4 R4=>⟨Z4,ρ4,Y4,S4,R4,u7 P4 fun ρ5 Y5 H5 Z5 B5 X5 S5 R5 P5=>⟨hlt,Z5,ρ5,Y5,((X2.trans X3).trans X4).trans X5,S5,R5,P5⟩⟩⟩
  ·rw[Re ho]at P2;exact P2.elim
 ·have e : i = src.items.length := by omega
  subst e;rw[Vr]at P2;unfold iX at P2;by_cases ho:cO src Y2
  ·rw[Rc ho]at P2;exact .inl ⟨(hJ H2 Z2 Y2 X2 S2 ho).2,P2 H2 Z2 B2 lV.refl S2 R2⟩
  ·rw[Re ho]at P2;exact P2.elim
theorem EM(hp:PassesOwn 1e1 X.A 2e1 X.xe)(hc:PT X c 21e3)(hb:kn X body (iV p fb)):PS X 60e0 (iV p (qg n ft fb)):=
 (Fm hp hc hb).weak fun D B H ⟨Z, ρ, Y, S, R, P⟩ => by
  refine⟨fun m B2 H2=>∃Z2 ρ2 Y2,p.S H2 Z2 Y2/\dH p.K H2 Z2 ρ2 B2/\eX p H2 Z2 (jK ft fb m ρ2 Y2) D,⟨n,Z,ρ,Y,S,R,P⟩,?_⟩
  rintro m B2 H2 ⟨Z2,ρ2,Y2,S2,R2,P2⟩
  cases m with
  |zero=>exact P2.elim
  |succ m=>
   unfold jK at P2;refine⟨Z2,ρ2,Y2,S2,R2,(aH.bindS P2).imp fun k Y3 H3 Z3 X3 S3 P3=>?_⟩;cases k with
   |true=>
    rw[Rc rfl]at P3⊢
    exact⟨fun B' H'=>∃Z2 ρ2 Y2,p.S H' Z2 Y2/\dH p.K H' Z2 ρ2 B'/\eX p H' Z2 (jK ft fb m ρ2 Y2) D,fun B' H' h=>⟨m,Tt _,h⟩,
     Z3,ρ2,Y3,S3,R2.mono X3,u7 P3 fun ρ5 Y5 H5 Z5 B5 X5 S5 R5 P5=>⟨Z5,ρ5,Y5,S5,R5,P5⟩⟩
   |false=>
    rw[Re RL]at P3⊢;exact P3 H3 Z3 B2 lV.refl S3 (R2.mono X3)
end
section
variable{p:Pa}{X:Cx}
theorem CK{Y:aB}{xs:List D}(S:p.S H Z Y)(hn:Y[n]?=some 3e1)(ha:Z[n]?=some a):zF p (Pv p.K a) (.own n xs) H Z:=by
 intro H2 Z2 Y2 X2 S2 ho;obtain⟨a',ea,vs,hH,rr⟩:=S2.at ho;rw[X2.pre n a ha]at ea;cases ea;refine⟨fun i d hd=>?_,vs,gW.of hH,by rw[58e8];exact RT _⟩;obtain⟨v,hv,rv⟩:=rr.get hd;refine⟨⟨vs,v,gW.of hH,hv⟩,fun x H3 ⟨e,hx⟩=>?_⟩;subst e;have:=hx vs (gW.of hH);rw[hv]at this;cases this;exact⟨lV.refl,S2,rv⟩
theorem F2{xs:List D}(h:Jt p.K H a vs)(r:p.Rs H Z xs vs):zF p (Pv p.K a) (.fix xs) H Z:=by
 intro H2 Z2 Y2 X2 S2 ho;have h2:=(X2.frz a vs h).sq;have rr:=r.mono X2;refine⟨fun i d hd=>?_,vs,h2,by rw[58e8];exact RT _⟩;obtain⟨v,hv,rv⟩:=rr.get hd;refine⟨⟨vs,v,h2,hv⟩,fun x H3 ⟨e,hx⟩=>?_⟩;subst e;have:=hx vs h2;rw[hv]at this;cases this;exact⟨lV.refl,S2,rv⟩
theorem F1{xs:List D}(h:fS p.K H a vs)(r:p.Rs H Z xs vs):zF p (PL p.K a) (.fix xs) H Z:=by
 intro H2 Z2 Y2 X2 S2 ho;have h2:=X2.tup a vs h;have rr:=r.mono X2;refine⟨fun i d hd=>?_,vs,h2,by rw[58e8];exact RT _⟩;obtain⟨v,hv,rv⟩:=rr.get hd;refine⟨⟨vs,v,h2,hv⟩,fun x H3 ⟨e,hx⟩=>?_⟩;subst e;have:=hx vs h2;rw[hv]at this;cases this;exact⟨lV.refl,S2,rv⟩
def bu(lo:Int)(n:Nat):List D:=(List.range n).map fun(i:Nat)=>D.int (lo+(i:Int))
theorem yB(lo:Int)(n:Nat):zF p (Nw lo n) (.fix (bu lo n)) H Z:=by
 intro H2 Z2 Y2 X2 S2 ho;refine⟨fun i d hd=>?_,by simp[pW.items,bu,Nw]⟩;have hd':(bu lo n)[i]?=some d:=hd;unfold bu at hd';rw[Si]at hd';by_cases hi:i<n
 ·rw[U4 hi]at hd';cases hd';refine⟨hi,fun x H3 ⟨e,hx⟩=>?_⟩;subst e;subst hx;exact⟨lV.refl,S2,ax.mpr rfl⟩
 ·rw[U5 6e4]at hd';cases hd'
def zC(d:D)(Y:aB):ai pW:=match d with
 |.tup xs=>.ok (.fix xs) Y
 |.frz xs=>.ok (.fix xs) Y
 |.obj n=>match Y[n]? with
  |some 3e1=>.ok (.own n xs) Y
  |_=>.bad
 |_=>.bad
def fR(f:ME):MI:=fun ρ Y=>(f ρ Y).bind zC
def Qo(K:W.Frag)(tl:TE):TI:=fun B H R=>tl B H fun x H1=>∃a,x=.ref a/\(((∃xs,gW K H1 a xs)/\R (Pv K a) H1)\/((∃xs,fS K H1 a xs)/\R (PL K a) H1))
theorem Lz{l:Expr}{tl:TE}(hl:PE X l tl):PI X tg l (Qo X.K tl):=by
 intro pins s B H R I h;refine dM (hl pins s B H _ I h) fun v s1 ⟨x,H1,I1,r1,q1⟩=>?_;obtain⟨a,e,q⟩:=q1;subst e;cases r1;rcases q with⟨⟨xs,hq⟩,q⟩|⟨⟨xs,hq⟩,q⟩
 ·obtain ⟨its, rv, p, hz⟩ := I1.list hq;refine UU p.isList ?_;refine⟨8e1,[8e1],_,_,H1,rfl,I1.kept (t':=s1.toks) fun b o e=>RQ _ e,BS a _,⟨_,RR _ rfl,rfl,rfl⟩,fun b hb=>?_,q⟩;have e:b=s1.heap.objs.size:=by simpa using hb
  subst e;exact I1.fpOk 7e5 30e2
 ·obtain ⟨its, rv, p, hz⟩ := I1.tuple hq;refine TU (show s1.heap.IsTuple a 2e7 from p) ?_;refine⟨8e1,[8e1],_,_,H1,rfl,I1.kept (t':=s1.toks) fun b o e=>RQ _ e,zZ a _,⟨_,RR _ rfl,rfl,rfl⟩,fun b hb=>?_,q⟩;have e:b=s1.heap.objs.size:=by simpa using hb
  subst e;exact I1.fpOk 7e5 30e2
theorem K4{l:Expr}{f:ME}(hK:X.K=p.K)(hl:PE X l 67e0):PI X tg l (su p (fR f)):=(Lz hl).weak fun B H R ⟨Z,ρ,Y,S,Rr,P⟩=>by
 refine⟨Z,ρ,Y,S,Rr,(aH.bind P).imp fun d Y1 H1 Z1 X1 S1 P1 v rv=>?_⟩;rw[hK];cases d with
 |tup xs=>
  obtain⟨a,vs,rfl,h1,h2⟩:=aN.mp rv;exact⟨a,rfl,.inr ⟨⟨vs,h1⟩,P1.now S1 _ trivial (F1 h1 h2)⟩⟩
 |frz xs=>
  obtain⟨a,vs,rfl,h1,h2⟩:=bI.mp rv;exact⟨a,rfl,.inl ⟨⟨vs,h1.sq⟩,P1.now S1 _ trivial (F2 h1 h2)⟩⟩
 |obj n=>
  obtain⟨a,rfl,ha⟩:=aU.mp rv;unfold zC at P1;dsimp only at P1;split at P1
  ·rename_i xs hx;obtain⟨a',ea,vs,hH,rr⟩:=S1.at hx;rw[ha]at ea;cases ea;exact⟨a,rfl,.inl ⟨⟨vs,gW.of hH⟩,P1.now S1 _ hx (CK S1 hx ha)⟩⟩
  ·exact P1.elim
 |non=>exact P1.elim
 |bl b=>exact P1.elim
 |int i=>exact P1.elim
 |str x=>exact P1.elim
def kr(ds:List D)(Y:aB):ai pW:=match ds with
 |[.int j]=>if -(2^62)<=j/\j<2^62 then .ok (.fix (bu 0 j.toNat)) Y else .bad
 |_=>.bad
def pZ(ds:List D)(Y:aB):ai pW:=match ds with
 |[.int i,.int j]=>if -(2^62)<=i/\i<2^62/\-(2^62)<=j/\j<2^62 then .ok (.fix (bu i (j-i).toNat)) Y else .bad
 |_=>.bad
def fT(f:List D->aB->ai pW)(fa:MA):MI:=fun ρ Y=>(fa ρ Y).bind f
theorem Ca{a:Expr}{fa:MA}(hg:Gl X "range")(hm:X.mg "range" = none)(ha:PA X [a] (nk p fa))(hs:starEach [a] 2e1=[11e3]):PI X tg (.Call 54e0 [a] [] pos) (su p (fT kr fa)):=
 (Cn hg hm ha hs).weak fun B H R ⟨Z, ρ, Y, S, Rr, P⟩ => ⟨Z, ρ, Y, S, Rr, (aH.bind P).imp fun ds Y1 H1 Z1 X1 S1 P1 vs rv => by
  unfold kr at P1;split at P1
  ·rename_i j;obtain⟨v,rfl,r1⟩:=rv.one;rw[ax.mp r1];split at P1
   ·rename_i hj;exact⟨j,rfl,hj.1,hj.2,P1.now S1 _ trivial (yB 0 _)⟩
   ·exact P1.elim
  ·exact P1.elim⟩
theorem σ9{a b:Expr}{fa:MA}(hg:Gl X "range")(hm:X.mg "range" = none)(ha:PA X [a,b] (nk p fa))(hs:starEach [a,b] 2e1=[11e3,30e9])(hs2:starEach [b] 2e1=[30e9]):PI X tg (.Call 54e0 [a,b] [] pos) (su p (fT pZ fa)):=
 (Cm hg hm ha hs hs2).weak fun B H R ⟨Z, ρ, Y, S, Rr, P⟩ => ⟨Z, ρ, Y, S, Rr, (aH.bind P).imp fun ds Y1 H1 Z1 X1 S1 P1 vs rv => by
  unfold pZ at P1;split at P1
  ·rename_i i j;obtain⟨v,u,rfl,r1,r2⟩:=rv.two;rw[ax.mp r1,ax.mp r2];split at P1
   ·rename_i hj;exact⟨i,j,rfl,hj,P1.now S1 _ trivial (yB i _)⟩
   ·exact P1.elim
  ·exact P1.elim⟩
theorem u9{b:Bool}{src:pW}{xs:List D}(hi:src.items=fW 0 xs)(hs:∀H2 Z2 Y2,p.X H H2 Z Z2->p.S H2 Z2 Y2->cO src Y2->∃vs,Sq b p.K H2 a vs/\p.Rs H2 Z2 xs vs ):zF p (PM b p.K a) src H Z:=by
 intro H2 Z2 Y2 X2 S2 ho;obtain⟨vs,h2,rr⟩:=hs H2 Z2 Y2 X2 S2 ho;rw[hi];refine⟨fun i d hd=>?_,vs,h2,by rw[58e8,vn]⟩;rw[vp]at hd;cases e:xs[i]? with
 |none=>rw[e]at hd;cases hd
 |some y=>
  rw[e]at hd;cases hd;obtain⟨v,hv,rv⟩:=rr.get e;refine⟨⟨vs,v,h2,hv⟩,fun x H3 ⟨q,w,e1,hq,e2,hx⟩=>?_⟩;subst e1 e2;have:=hx vs h2;rw[hv]at this;cases this;refine⟨bW hq,S2.tuple hq,aN.mpr ⟨q,_,rfl,fS.of cf,?_⟩⟩;rw[Nat.zero_add];exact Reps.cons 11e4 (Reps.cons (rv.mono 61e0) Reps.nil)
def qY(ds:List D)(Y:aB):ai pW:=match ds with
 |[.tup xs]=>.ok (.fix (fW 0 xs)) Y
 |[.obj n]=>match Y[n]? with
  |some 3e1=>.ok (.eno n xs) Y
  |_=>.bad
 |_=>.bad
theorem Hr{a:Expr}{fa:MA}{tpos:Pos}(hK:X.K=p.K)(hg:Gl X "enumerate")(hm:X.mg "enumerate" = none)(ha:PA X [a] (nk p fa))(hs:starEach [a] 2e1=[11e3]):
  PI X 43e2 59e2 (su p (fT qY fa)):=
 (HU hg hm ha hs).weak fun B H R ⟨Z, ρ, Y, S, Rr, P⟩ => ⟨Z, ρ, Y, S, Rr, (aH.bind P).imp fun ds Y1 H1 Z1 X1 S1 P1 vs rv => by
  rw[hK];unfold qY at P1;split at P1
  ·rename_i xs;obtain⟨v,rfl,r1⟩:=rv.one;obtain⟨a,us,rfl,h1,h2⟩:=aN.mp r1;exact⟨a,false,rfl,⟨us,h1⟩,P1.now S1 _ trivial (u9 (b:=false) rfl fun H2 Z2 Y2 X2 S2 _=>⟨us,X2.tup a us h1,h2.mono X2⟩)⟩
  ·rename_i n;split at P1
   ·rename_i xs hx;obtain⟨v,rfl,r1⟩:=rv.one;obtain⟨a,rfl,ha⟩:=aU.mp r1;obtain⟨a',ea,us,hH,rr⟩:=S1.at hx;rw[ha]at ea;cases ea;refine⟨a,true,rfl,⟨us,gW.of hH⟩,P1.now S1 _ hx (u9 (b:=true) rfl fun H2 Z2 Y2 X2 S2 ho=>?_)⟩;obtain⟨a2,ea2,us2,hH2,rr2⟩:=S2.at (show Y2[n]?=some 3e1 from ho);rw[X2.pre n a ha]at ea2;cases ea2;exact⟨us2,gW.of hH2,rr2⟩
   ·exact P1.elim
  ·exact P1.elim⟩
end
def ai.nox(o:ai β):ai β:=match o with
 |.exc _ _=>.bad
 |o=>o
@[simp] theorem ae{a:β}{Y:aB}:(ai.ok a Y).nox=.ok a Y:=Vn 8e2
abbrev Pa.nx(p:Pa):Pa:=⟨p.K,p.w,fun _ _ _ _=>False⟩
theorem eB{γ:Type}{p:Pa}{o:ai β}{k:β->aB->ai γ}{R:γ->aB->Hp->List Addr->Prop}(h:aH p H Z (o.nox.bind k) R):aH p.nx H Z o (fun a Y1 H1 Z1=>aH p H1 Z1 (k a Y1) R):=by
 cases o with
 |ok a Y=>exact fun H' Z' e s=>aH.from e h
 |exc x Y=>exact False.elim h
 |bad=>exact h
def dr(cap:List 5e0)(ρ:Ro):Ro:=cap.map fun o=>o.bind fun j=>(ρ[j]?).join
theorem dH.cap{ρ:Ro}(R:dH K H Z ρ B)(cap:List 5e0):dH K H Z 74e6 (sI cap B):=by
 refine⟨by simp[dr,sI],fun i d h=>?_⟩;unfold dr at h;unfold sI;rw[Si]at h⊢;cases e:cap[i]? with
 |none=>rw[e]at h;cases h
 |some o=>
  rw[e]at h;cases o with
  |none=>simp at h
  |some j=>
   simp at h⊢
   obtain⟨v,h1,h2⟩:=R.at' j d (by
    cases e2:ρ[j]? with
    |none=>rw[e2]at h;simp at h
    |some x=>rw[e2]at h;simp at h;rw[h])
   exact⟨v,by rw[h1];rfl,h2⟩
def qX(n:Nat)(y:D)(Y:aB):ai Unit:=match Y[n]? with
 |some 34e9=>if ys.length<sizeLine then .ok () (Y.set n (.lst (ys++[y]))) else .bad
 |_=>.bad
open Classical in
def compLoop(src:pW)(n:Nat)(g:MG)(t:MT)(e:ME):List D->Ro->aB->ai D
 |[],_,Y=>if cO src Y then .ok 23e9 Y else .bad
 |d::r,ρ,Y=>if cO src Y then (g d ρ Y).nox.bind fun ρ1 Y1=>(t ρ1 Y1).nox.bind fun b Y2=>if b=true then (e ρ1 Y2).nox.bind fun y Y3=>(qX n y Y3).bind fun _ Y4=>compLoop src n g t e r ρ1 Y4 else compLoop src n g t e r ρ1 Y2 else .bad
def cc(fi:MI)(cap:List 5e0)(g:MG)(t:MT)(e:ME):ME:=fun ρ Y=>(fi ρ Y).bind fun src Y1=>compLoop src 6e9 g t e src.items 74e6 32e0
def bj:MT:=fun _ Y=>.ok true Y
theorem yk{p:Pa}{y:D}{Y:aB}{R:Unit->aB->Hp->List Addr->Prop}(S:p.S H Z Y)(ha:Z[n]?=some acc)(rv:p.R H Z y v)(P:aH p H Z (qX n y Y) R):
  ∃ys,H acc=some 34e9/\ys.length<sizeLine/\∃Y',p.X H 49e8 Z Z/\p.S 49e8 Z Y'/\R () Y' 49e8 Z:=by
 unfold qX at P;split at P
 ·rename_i xs hx;obtain⟨a,ea,us,hH,rr⟩:=S.at hx;rw[ha]at ea;cases ea;split at P
  ·rename_i hl;have q:=rr.snoc rv;exact⟨us,hH,by rw[58e8];exact hl,_,iL hH,S.put hx ha hH q,P _ _ (iL hH) (S.put hx ha hH q)⟩
  ·exact P.elim
 ·exact P.elim
section
variable{p:Pa}{X:Cx}{ifs:List Expr}{cap:List 5e0}{fi:MI}{g:MG}{t:MT}{e:ME}
theorem vt{Q:VK}(h:tD p (cc fi cap g t e) B H Q):DJ 70e4 cap 22e2 38e6 74e7 B H Q:=by
 obtain⟨Z,ρ,Y,S,R,P⟩:=h;refine⟨Z,ρ,Y,S,R,(aH.bind P).imp fun src Y1 H1 Z1 X1 S1 P1 J hok hJ acc hacc=>?_⟩;obtain⟨x1,s1,_⟩:=dB (ds:=[]) (vs:=[]) S1 hacc Reps.nil;have hn:(Z1++[acc])[6e9]?=some acc:=by rw[<- S1.len];simp
 refine⟨fun i m B2 H2=>m=src.items.length-i/\i<=src.items.length/\∃Z2 ρ2 Y2,p.X H1 H2 Z1 Z2/\p.S H2 Z2 Y2/\dH p.K H2 Z2 ρ2 B2/\Z2[6e9]?=some acc/\aH p H2 Z2 (compLoop src 6e9 g t e 74e5 ρ2 Y2) 35e4,
  ⟨_,rfl,TJ _,Z1++[acc],dr cap ρ,Y1++[.lst []],x1,s1,((R.mono X1).cap cap).mono x1,hn,by simpa using aH.from x1 P1⟩,?_⟩
 rintro i m B2 H2 ⟨rfl,hi,Z2,ρ2,Y2,X2,S2,R2,a2,P2⟩
 by_cases hlt:i<src.items.length
 ·rw [Vq hlt] at P2;unfold compLoop at P2;by_cases ho:cO src Y2
  ·rw [Rc ho] at P2;obtain⟨hgo,hy⟩:=(hJ H2 Z2 Y2 X2 S2 ho).1 i _ (Vg hlt)
   refine .inr ⟨hgo,fun B' H'=>i+1<=src.items.length/\∃Z2 ρ2 Y2,p.X H1 H' Z1 Z2/\p.S H' Z2 Y2/\dH p.K H' Z2 ρ2 B'/\Z2[6e9]?=some acc/\aH p H' Z2 (compLoop src 6e9 g t e 61e1 ρ2 Y2) 35e4,
    fun B' H' ⟨h1,h2⟩=>⟨_,by omega,rfl,h1,h2⟩,fun x H3 yx=>?_⟩
   obtain⟨X3,S3,R3⟩:=hy x H3 yx;refine⟨Z2,ρ2,Y2,_,S3,R2.mono X3,R3,(aH.from (p:=p.nx) X3 (eB P2)).imp fun ρ4 Y4 H4 Z4 X4 S4 P4 B4 R4=>?_⟩;refine⟨Z4,ρ4,Y4,S4,R4,(eB P4).imp fun b Y5 H5 Z5 X5 S5 P5=>?_⟩;have xx:p.X H1 H5 Z1 Z5:=((X2.trans X3).trans X4).trans X5;have a5:Z5[6e9]?=some acc:=X5.pre _ _ (X4.pre _ _ (X3.pre _ _ a2));cases b with
   |false=>
    rw[Re RL]at P5;refine NY ?_;exact⟨hlt,Z5,ρ4,Y5,xx,S5,R4.mono X5,a5,P5⟩
   |true=>
    rw[Rc rfl]at P5;refine NX ?_;refine⟨Z5,ρ4,Y5,S5,R4.mono X5,(eB P5).imp fun y Y6 H6 Z6 X6 S6 P6 v rv=>?_⟩;obtain⟨ys,e1,e2,Y7,x7,s7,q7⟩:=yk (p:=p) S6 (X6.pre _ _ a5) rv (aH.bind P6);exact⟨ys,e1,e2,hlt,Z6,ρ4,Y7,(xx.trans X6).trans x7,s7,((R4.mono X5).mono X6).mono x7,X6.pre _ _ a5,q7⟩
  ·rw[Re ho]at P2;exact P2.elim
 ·have e : i = src.items.length := by omega
  subst e;rw[Vr]at P2;unfold compLoop at P2;by_cases ho:cO src Y2
  ·rw[Rc ho]at P2;exact .inl ⟨(hJ H2 Z2 Y2 X2 S2 ho).2,P2 H2 Z2 lV.refl S2 _ (aU.mpr ⟨acc,rfl,a2⟩)⟩
  ·rw[Re ho]at P2;exact P2.elim
theorem Hb{X:Cx}:sv X [] (iA p bj):=fun pins s B H Q I h=>by
 obtain⟨Z,ρ,Y,S,R,P⟩:=h;exact HJ pins s B H Q I (P.now S)
theorem G9{X:Cx}{t:MT}(h:PT X c (iA p t)):sv X [c] (iA p t):=HI h
theorem Hw(hc:X.calm=true)(S:cg X.N 2e1 scope Nc cap)(hi:PI X tg iter 70e4)
  (hg:∀cl C s H fp,PG 0e8 tg 22e2) (ht:∀cl C s H fp,sv 0e8 ifs 38e6) (he:∀cl C s H fp,PE 0e8 elt 74e7)
  (hs:∀x,foldedSetIterable iter 2e1 x=pure x):PE X 3e4 (tD p (cc fi cap g t e)):=
 (HZ hc S hi hg ht he hs).weak fun B H Q h=>vt h
theorem He(hc:X.calm=true)(hN:X.N.Nodup)(hix:X.N[i]?=some x)(hx:X.env.scope.names.lookup x=some .local)(S:cg X.N 2e1 scope Nc cap)(hi:PI X tg iter 70e4)(hg:∀cl C s H fp,PG 0e8 tg 22e2)(ht:∀cl C s H fp,sv 0e8 ifs 38e6)(he:∀cl C s H fp,PE 0e8 elt 74e7)(hsw:swapsWith 3e4 (some 35e1) pos2.line 2e1=pure true)(hs:∀x,foldedSetIterable iter 2e1 x=pure x):
  PS X 36e6 (iV p (bx (cc fi cap g t e) (ak i))):=
 (HN hc hN hix hx S hi hg ht he hsw hs).weak fun D B H h => by
  obtain⟨Z,ρ,Y,S,R,P⟩:=h;refine vt ⟨Z,ρ,Y,S,R,(aH.bindS P).imp fun d Y1 H1 Z1 X1 S1 P1 v rv=>?_⟩;exact P1 H1 Z1 _ lV.refl S1 ((R.mono X1).set i rv)
end
abbrev MB:=Nat->Ro->aB->ai Ro
def sG(e:ME):MB:=fun n ρ Y=>(e ρ Y).nox.bind fun y Y1=>(qX n y Y1).bind fun _ Y2=>.ok ρ Y2
open Classical in
def jn(src:pW)(n:Nat)(g:MG)(t:MT)(fb:MB):List D->Ro->aB->ai Ro
 |[],ρ,Y=>if cO src Y then .ok ρ Y else .bad
 |d::r,ρ,Y=>if cO src Y then (g d ρ Y).nox.bind fun ρ1 Y1=>(t ρ1 Y1).nox.bind fun b Y2=>if b=true then (fb n ρ1 Y2).nox.bind fun ρ2 Y3=>jn src n g t fb r ρ2 Y3 else jn src n g t fb r ρ1 Y2 else .bad
def vT(fi:MI)(g:MG)(t:MT)(fb:MB):MB:=fun n ρ Y=>(fi ρ Y).nox.bind fun src Y1=>jn src n g t fb src.items ρ Y1
def oa(fi:MI)(cap:List 5e0)(g:MG)(t:MT)(fb:MB):ME:=fun ρ Y=>(fi ρ Y).bind fun src Y1=>(jn src 6e9 g t fb src.items 74e6 32e0).bind fun _ Y2=>.ok 47e2 Y2
section
variable{p:Pa}
def xm(p:Pa)(fb:MB)(acc:Addr):Dm:=fun B H N=>∃Z ρ Y n,p.S H Z Y/\dH p.K H Z ρ B/\Z[n]?=some acc/\aH p H Z (fb n ρ Y) 12e5
theorem CV{e:ME}{N:St->Hp->Prop}(h:xm p (sG e) acc B H N):DI 74e7 acc B H N:=by
 obtain⟨Z,ρ,Y,n,S,R,a,P⟩:=h;refine⟨Z,ρ,Y,S,R,(eB P).imp fun y Y6 H6 Z6 X6 S6 P6 v rv=>?_⟩;obtain⟨ys,e1,e2,Y7,x7,s7,q7⟩:=yk (p:=p) S6 (X6.pre _ _ a) rv (aH.bind P6);exact⟨ys,e1,e2,q7.now s7 B ((R.mono X6).mono x7)⟩
theorem oq{src:pW}{g:MG}{t:MT}{fb:MB}{J:It}{H1:Hp}{Z1 Z0:List Addr}{ρ:Ro}{Y1:aB}{N:St->Hp->Prop}(X0:p.X H0 H1 Z0 Z1)(S1:p.S H1 Z1 Y1)(R:dH p.K H1 Z1 ρ B)(hn:Z1[n]?=some acc)(hJ:zF p J src H0 Z0)(P1:aH p H1 Z1 (jn src n g t fb src.items ρ Y1) 12e5):Pj J 22e2 38e6 61e2 N B H1:=by
 refine⟨fun i m B2 H2=>m=src.items.length-i/\i<=src.items.length/\∃Z2 ρ2 Y2,p.X H0 H2 Z0 Z2/\p.S H2 Z2 Y2/\dH p.K H2 Z2 ρ2 B2/\Z2[n]?=some acc/\aH p H2 Z2 (jn src n g t fb 74e5 ρ2 Y2) 12e5,
  ⟨_,rfl,TJ _,Z1,ρ,Y1,X0,S1,R,hn,by simpa using P1⟩,?_⟩
 rintro i m B2 H2 ⟨rfl,hi,Z2,ρ2,Y2,X2,S2,R2,a2,P2⟩
 by_cases hlt:i<src.items.length
 ·rw [Vq hlt] at P2;unfold jn at P2;by_cases ho:cO src Y2
  ·rw [Rc ho] at P2;obtain⟨hgo,hy⟩:=(hJ H2 Z2 Y2 X2 S2 ho).1 i _ (Vg hlt)
   refine .inr ⟨hgo,fun B' H'=>i+1<=src.items.length/\∃Z2 ρ2 Y2,p.X H0 H' Z0 Z2/\p.S H' Z2 Y2/\dH p.K H' Z2 ρ2 B'/\Z2[n]?=some acc/\aH p H' Z2 (jn src n g t fb 61e1 ρ2 Y2) 12e5,
    fun B' H' ⟨h1,h2⟩=>⟨_,by omega,rfl,h1,h2⟩,fun x H3 yx=>?_⟩
   obtain⟨X3,S3,R3⟩:=hy x H3 yx;refine⟨Z2,ρ2,Y2,_,S3,R2.mono X3,R3,(aH.from (p:=p.nx) X3 (eB P2)).imp fun ρ4 Y4 H4 Z4 X4 S4 P4 B4 R4=>?_⟩;refine⟨Z4,ρ4,Y4,S4,R4,(eB P4).imp fun b Y5 H5 Z5 X5 S5 P5=>?_⟩;have xx:p.X H0 H5 Z0 Z5:=((X2.trans X3).trans X4).trans X5;have a5:Z5[n]?=some acc:=X5.pre _ _ (X4.pre _ _ (X3.pre _ _ a2));cases b with
   |false=>
    rw[Re RL]at P5;refine NY ?_;exact⟨hlt,Z5,ρ4,Y5,xx,S5,R4.mono X5,a5,P5⟩
   |true=>
    rw[Rc rfl]at P5;refine NX ?_;refine⟨Z5,ρ4,Y5,n,S5,R4.mono X5,a5,(eB P5).imp fun ρ6 Y6 H6 Z6 X6 S6 P6 B' r'=>?_⟩;exact⟨hlt,Z6,ρ6,Y6,xx.trans X6,S6,r',X6.pre _ _ a5,P6⟩
  ·rw[Re ho]at P2;exact P2.elim
 ·have e : i = src.items.length := by omega
  subst e;rw[Vr]at P2;unfold jn at P2;by_cases ho:cO src Y2
  ·rw[Rc ho]at P2;exact .inl ⟨(hJ H2 Z2 Y2 X2 S2 ho).2,P2.now S2 _ R2⟩
  ·rw[Re ho]at P2;exact P2.elim
theorem Av{fi:MI}{g:MG}{t:MT}{fb:MB}{N:St->Hp->Prop}(h:xm p.nx (vT fi g t fb) acc B H N):D9 (su p.nx fi) 22e2 38e6 61e2 B H N:=by
 obtain⟨Z,ρ,Y,n,S,R,a,P⟩:=h;refine⟨Z,ρ,Y,S,R,(eB P).imp fun src Y1 H1 Z1 X1 S1 P1 J hok hJ=>?_⟩;exact oq (p:=p.nx) lV.refl S1 (R.mono X1) (X1.pre _ _ a) hJ P1
theorem AC{fi:MI}{cap:List 5e0}{g:MG}{t:MT}{fb:MB}{Q:VK}(h:tD p (oa fi cap g t fb) B H Q):nX 46e2 70e4 cap 22e2 38e6 (fun acc=>xm p.nx fb acc) B H Q:=by
 obtain⟨Z,ρ,Y,S,R,P⟩:=h;refine⟨Z,ρ,Y,S,R,(aH.bind P).imp fun src Y1 H1 Z1 X1 S1 P1 J hok hJ acc hacc=>?_⟩;obtain⟨x1,s1,_⟩:=dB (ds:=[]) (vs:=[]) S1 hacc Reps.nil;have hn:(Z1++[acc])[6e9]?=some acc:=by rw[<- S1.len];simp
 refine oq (p:=p) x1 s1 (((R.mono X1).cap cap).mono x1) hn hJ 34e0;exact P'.now S' _ 67e1
variable{X:Cx}{cl0 cl:Comprehension}{rest:List Comprehension}{cap:List 5e0}{fi:MI}{g:MG}{t:MT}{fb:MB}{d:Nat}
theorem HA{f:ME}(hg:gens[d]?=none)(hxe:X.xe=vC)(hel:PE X elt (tD p.nx f)):vB X 18e3 d acc (xm p.nx (sG f) acc):=fun pins s B H N I h=>sX hg hxe hel pins s B H N I (CV (p:=p.nx) h)
theorem Fc(he:n6 e=true)(hz:∀g∈clausesOf e,g.is_async=0)(hg:(clausesOf e)[d]?=some cl)(hxe:X.xe=vC)(hc:X.calm=true)(hi:PI X cl.target cl.iter (su p.nx fi))(hgc:PG X cl.target 22e2)(htc:sv X cl.ifs 38e6)(hb:vB X e (d+1) acc 61e2)
  (hs:∀x,foldedSetIterable cl.iter 2e1 x=pure x):vB X e d acc (xm p.nx (vT fi g t fb) acc):=fun pins s B H N I h=>Cq he hz hg hxe hc hi hgc htc hb hs pins s B H N I (Av h)
theorem E8(hc:X.calm=true)(hz:∀g∈cl0::rest,g.is_async=0)(S:cg X.N 2e1 scope Nc cap)(hi:PI X cl0.target cl0.iter 70e4)
  (hg:∀cl C s H fp,PG 0e8 cl0.target 22e2) (ht:∀cl C s H fp,sv 0e8 cl0.ifs 38e6) (hb:∀cl C s H fp acc,vB 0e8 8e4 1 acc 61e2)
  (hs:∀x,foldedSetIterable cl0.iter 2e1 x=pure x):PE X 8e4 (tD p (oa fi cap g t fb)):=
 (yn hc hz S hi hg ht hb hs).weak fun B H Q h=>AC h
end
mutual
def D.low(n:Nat):D->Prop
 |.tup xs=>D.lows n xs
 |.frz xs=>D.lows n xs
 |.obj m=>m<n
 |_=>True
def D.lows(n:Nat):List D->Prop
 |[]=>True
 |x::xs=>x.low n/\D.lows n xs
end
def O.low(n:Nat):O->Prop
 |.lst xs=>D.lows n xs
 |_=>True
section
variable{Z':List Addr}
mutual
theorem aQ.low:∀{d:D}{v:V},aQ K H Z d v->d.low Z.length
 |.non,_,_=>trivial
 |.bl _,_,_=>trivial
 |.int _,_,_=>trivial
 |.str _,_,_=>trivial
 |.tup xs,_,h=>by
  obtain⟨a,vs,rfl,h1,h2⟩:=aN.mp h;dsimp[D.low];exact Reps.low h2
 |.frz xs,_,h=>by
  obtain⟨a,vs,rfl,h1,h2⟩:=bI.mp h;dsimp[D.low];exact Reps.low h2
 |.obj n,_,h=>by
  obtain⟨a,rfl,h1⟩:=aU.mp h;dsimp[D.low];exact(Ry.mp h1).1
theorem Reps.low:∀{ds:List D}{vs:List V},Reps K H Z ds vs->D.lows Z.length ds
 |[],_,_=>trivial
 |d::ds,_,h=>by
  dsimp[Reps]at h;obtain⟨v,r,rfl,h1,h2⟩:=h;dsimp[D.lows];exact⟨aQ.low h1,Reps.low h2⟩
end
mutual
theorem aQ.cut{n:Nat}(e:∀m,m<n->Z'[m]?=Z[m]?):∀{d:D}{v:V},aQ K H Z' d v->d.low n->aQ K H Z d v
 |.non,_,h,_=>by dsimp[aQ]at h⊢;exact h
 |.bl _,_,h,_=>by dsimp[aQ]at h⊢;exact h
 |.int _,_,h,_=>by dsimp[aQ]at h⊢;exact h
 |.str _,_,h,_=>by dsimp[aQ]at h⊢;exact h
 |.tup xs,_,h,b=>by
  obtain⟨a,vs,rfl,h1,h2⟩:=aN.mp h;dsimp[D.low]at b;exact aN.mpr ⟨a,vs,rfl,h1,Reps.cut e h2 b⟩
 |.frz xs,_,h,b=>by
  obtain⟨a,vs,rfl,h1,h2⟩:=bI.mp h;dsimp[D.low]at b;exact bI.mpr ⟨a,vs,rfl,h1,Reps.cut e h2 b⟩
 |.obj m,_,h,b=>by
  obtain⟨a,rfl,h1⟩:=aU.mp h;dsimp[D.low]at b;exact aU.mpr ⟨a,rfl,by rw[<- e m b];exact h1⟩
theorem Reps.cut{n:Nat}(e:∀m,m<n->Z'[m]?=Z[m]?):∀{ds:List D}{vs:List V},Reps K H Z' ds vs->D.lows n ds->Reps K H Z ds vs
 |[],_,h,_=>by dsimp[Reps]at h⊢;exact h
 |d::ds,_,h,b=>by
  dsimp[Reps]at h⊢;obtain⟨v,r,rfl,h1,h2⟩:=h;dsimp[D.lows]at b;exact⟨v,r,rfl,aQ.cut e h1 b.1,Reps.cut e h2 b.2⟩
end
end
def Kc(Y Y':aB)(d:D):Prop:=d.low 8e5/\Y.length<=Y'.length/\∀(i:Nat) o,i<Y.length->Y'[i]?=some o->Y[i]?=some o\/o.low 8e5
open Classical in
def uf(Y:aB)(o:ai D):ai D:=match o with
 |.ok d Y'=>if Kc Y Y' d then .ok d (Y'.take 8e5) else .ok d Y'
 |o=>o
theorem si{p:Pa}{Y:aB}{o:ai D}{Q:VK}(S:p.S H Z Y)(P:aH p H Z (uf Y o) 35e4):aH p H Z o 35e4:=by
 cases o with
 |exc x Y'=>exact P
 |bad=>exact P
 |ok d Y'=>
  unfold uf at P;dsimp only at P;by_cases hg:Kc Y Y' d
  ·rw [Rc hg] at P;obtain⟨g1,g2,g3⟩:=hg;intro H' Z' e s v rv
   have al:∀m,m<Y.length->Z'[m]?=Z[m]?:=fun m hm=>by
    have hm':m<Z.length:=by rw[S.len];exact hm
    rw[Vg hm'];exact e.pre m _ (Vg hm')
   refine P H' Z ⟨e.tup,e.frz,fun _ _ z=>z⟩ ⟨by rw[Sd,S.len];omega,S.nd,fun n o a h1 h2=>?_⟩ v (aQ.cut al rv g1);have hn:n<Y.length:=by rw[<- S.len];exact(Ry.mp h2).1
   rw[Sj hn]at h1;have q:=s.ob n o a h1 (e.pre n a h2)
   have ob:o.low 8e5:=by
    rcases g3 n o hn h1 with z|z
    ·have q0 := S.ob n o a z h2;cases o with
     |lst xs=>obtain⟨vs,_,r⟩:=q0;have:=r.low;rw[S.len]at this;exact this
     |set ks=>trivial
     |iset ks=>trivial
     |dic=>trivial
     |exc c=>trivial
    ·exact z
   cases o with
   |lst xs=>obtain⟨vs,h3,r⟩:=q;exact⟨vs,h3,Reps.cut al r ob⟩
   |set ks=>exact q
   |iset ks=>exact q
   |dic=>exact q
   |exc c=>exact q
  ·rw[Re hg]at P;exact P
def SO.out(o:SO):ai D:=match o with
 |.ret d Y=>.ok d Y
 |.next _ Y=>.ok .non Y
 |.exc x Y=>.exc x Y
 |_=>.bad
def iW(n N:Nat)(fb:MS):List D->aB->ai D:=fun ds Y=>if ds.length=n then uf Y (fb (ds.map some++List.replicate (N-n) none) Y).out else .bad
def Gq(p:Pa)(n:Nat)(F:List D->aB->ai D):Sp:=fun vs H Q _=>vs.length=n/\∃Z ds Y,p.S H Z Y/\p.Rs H Z ds vs/\aH p H Z (F ds Y) 35e4
structure dy(P:Program)(w:World)(K:W.Frag)(mg:Str->Option Value)(base:Heap)(p:Pa)(k:Nat)(x:Str)(n:Nat)(F:List D->aB->ai D):Prop where
 len:∀ds Y,ds.length≠n->F ds Y=.bad
 fn:∃f fd ps,mg x=some 4e6/\W.keepIn K 4e6=true/\iZ K fd ps []/\sC P w K mg base zy k f fd ps (Gq p n F)
section
variable{p:Pa}{X:Cx}{k:Nat}{F:List D->aB->ai D}{a:Expr}{es:List Expr}{fr:MA}
theorem Hx (h:dy 23e6 X.w X.K X.mg 62e1 p k x n F) (hr:iw k X.A) (hg:Gl X x) (ha:PA X (a::es) 14e8) (hdb:(x == ("__debug__" : Str))=false) (he:starEach (a::es) 2e1=(false,eval a 2e1)::starEach es 2e1) (hpl:(backTo pos 7e7).any 3e3=false) :
  PE X 7e8 (tD p (aE F fr)):=by
 obtain⟨f,fd,ps,h1,h2,h3,h4⟩:=h.fn;refine(wk (dvs:=[]) (E:=E0) h4 hr hg h1 h2 h3 .nil DP ha hdb he hpl).weak fun B H Q ⟨Z,ρ,Y,S,R,P⟩=>⟨Z,ρ,Y,S,R,(aH.bind P).imp fun ds Y1 H1 Z1 X1 S1 P1 vs rv=>?_⟩;show Gq p n F (vs++[]) H1 Q E0;rw[R6];refine⟨?_,Z1,ds,Y1,S1,rv,P1⟩;by_cases hl:ds.length=n
 ·rw[53e3];exact hl
 ·rw[h.len ds Y1 hl]at P1;exact P1.elim
end
theorem lz{ds:List D}(r:Reps K H Z ds vs)(m:Nat):dH K H Z (ds.map some++List.replicate m none) (vs.map some++List.replicate m none):=by
 refine⟨by simp[32e3],fun i d h=>?_⟩;by_cases hi:i<ds.length
 ·rw [Sh 6e4, Si] at h;cases e:ds[i]? with
  |none=>rw[e]at h;cases h
  |some x=>
   rw[e]at h;cases h;obtain⟨v,hv,rv⟩:=r.get e;refine⟨v,?_,rv⟩;rw[Sh (by simp[32e3,hi]),Si,hv];rfl
 ·rw[Sf 6e4,Sg]at h;split at h <;> cases h
theorem Nb{p:Pa}{k:Nat}{ps:List Str}{fb:MS}(F:ir K x qual st f fd)(S:aX N ps 60e3)(hn:ps.length=n)(hm:mg x=some 4e6)(hb:iZ K fd ps [])(body : ∀ (cdv : Value) (A : Around) (outer : List Env) (s : Shared) (H : Hp) (E : XK), iw k 7e0 ->
   kn (sy zy P w K mg base N qual 60e3 f cdv A outer s H E).nox (cW st) (iV p fb)):dy P w K mg base p (k+1) x n 38e7:=by
 refine⟨fun ds Y h=>by unfold iW;rw[Re h],f,fd,ps,hm,F.kp,hb,?_⟩;refine F.ok S 21e7 fun cdv A outer s H vs Q E hr h=>?_;refine⟨_,body cdv A outer s H E hr,?_⟩;obtain⟨hl,Z,ds,Y,S1,R1,P1⟩:=h;unfold iW at P1;have hd:ds.length=n:=by rw[<- R1.length];exact hl
 rw[Rc hd]at P1;have P2:=si S1 P1;unfold start;rw[hl];refine⟨Z,_,Y,S1,lz R1 _,?_⟩;cases e:fb 13e9 Y with
 |ret d Y'=>rw[e]at P2;exact fun H' Z' v x s r=>P2 H' Z' x s v r
 |next ρ Y'=>rw[e]at P2;exact fun H' Z' B' x s r=>P2 H' Z' x s .non 55e5
 |exc x Y'=>rw[e]at P2;exact P2
 |brk ρ Y'=>rw[e]at P2;exact P2.elim
 |cnt ρ Y'=>rw[e]at P2;exact P2.elim
 |bad=>rw[e]at P2;exact P2.elim
end L2
variable{Y:L2.aB}{xs:List L2.D}{d:L2.D}{p:L2.Pa}{M:L2.aB}{Y0:L2.aB}{F:List L2.D->L2.aB->L2.ai L2.D}{fr:L2.MA}{o:L2.D->L2.D->L2.aB->L2.ai L2.D}{ρ:L2.Ro}{Y1:L2.aB}{fa:L2.ME}{o0:Option L2.D}{fi:L2.MI}{fb:L2.MS}{ds:List L2.D}{o7:Option L2.D}{gd:Int->Int->L2.D}{gg:Int->Int->L2.D}{o4:Option L2.D}{ys:List L2.D}{M0:L2.aB}{y:L2.D}{G:L2.aB}
namespace L2
open PySem PySem.Spec PyProof.Rows RS
section
variable(K:W.Frag)(H:Hp)
mutual
def oG:PyData->V->Prop
 |.none,v=>v=.non
 |.bool b,v=>v=.bl b
 |.int i,v=>v=.int i
 |.str x,v=>v=.str x
 |.tuple xs,v=>∃a vs,v=.ref a/\fS K H a vs/\RdPs xs vs
 |.list xs,v=>∃a vs,v=.ref a/\gW K H a vs/\RdPs xs vs
 |.dict _,_=>False
def RdPs:List PyData->List V->Prop
 |[],vs=>vs=[]
 |x::xs,vs=>∃v r,vs=v::r/\oG x v/\RdPs xs r
end
end
section
variable{X:Cx}
mutual
theorem dZ(I:bb X pins B H s):∀(d:PyData)(x:V)(v:Value),oG X.K H d x->cE x v->∃as,Reads 3e0 v d as
 |.none,_,_,h,r=>by dsimp[oG]at h;subst h;cases r;exact⟨_,.none⟩
 |.bool b,_,_,h,r=>by dsimp[oG]at h;subst h;cases r;exact⟨_,.bool b⟩
 |.int b,_,_,h,r=>by dsimp[oG]at h;subst h;obtain⟨t,rfl⟩:=r;exact⟨_,.int b t⟩
 |.str b,_,_,h,r=>by dsimp[oG]at h;subst h;obtain⟨t,rfl⟩:=r;exact⟨_,.str b t⟩
 |.tuple xs,_,_,h,r=>by
  dsimp[oG]at h;obtain⟨a,vs,rfl,h1,h2⟩:=h;cases r;obtain⟨its,rv,⟨o,e1,e2,n,e3⟩,_⟩:=I.tuple h1;obtain⟨as,q⟩:=readsAll_of I xs vs its h2 rv;exact⟨_,.tuple e1 e2 e3 37e9⟩
 |.list xs,_,_,h,r=>by
  dsimp[oG]at h;obtain⟨a,vs,rfl,h1,h2⟩:=h;cases r;obtain⟨its,rv,⟨o,n,e1,e2,_,e3⟩,_⟩:=I.list h1;obtain⟨as,q⟩:=readsAll_of I xs vs its h2 rv;exact⟨_,.list e1 e2 e3 37e9⟩
 |.dict _,_,_,h,_=>by dsimp[oG]at h
theorem readsAll_of(I:bb X pins B H s):∀(ds:List PyData)(xs:List V)(vs:List Value),RdPs X.K H ds xs->bt xs vs->∃as,ReadsAll 3e0 vs ds as
 |[],_,_,h,r=>by dsimp[RdPs]at h;subst h;cases r;exact⟨_,.nil⟩
 |d::ds,_,_,h,r=>by
  dsimp[RdPs]at h;obtain⟨v,q,rfl,h1,h2⟩:=h;cases r with
  |cons r rr=>
   obtain⟨as,g1⟩:=dZ I d _ _ h1 r;obtain⟨bs,g2⟩:=readsAll_of I ds _ _ h2 rr;exact⟨_,.cons g1 g2⟩
end
def dS(d:PyData):Bool:=d.canLay0&&decide (d.depth<=60)
def Du(K:W.Frag)(neg:Bool):R2:=fun x y H Q=>∃a b,oG K H a x/\oG K H b y/\dS a=true/\dS b=true/\Q (.bl (if neg then !PyData.eqv a b else PyData.eqv a b)) H
theorem qC{a b:PyData}(ha:dS a=true)(hu:A.units+64<cLine):A.units+min a.depth b.depth<cLine:=by
 unfold dS at ha;dsimp[SM,Vs]at ha;have:=Nat.min_le_left a.depth b.depth;omega
theorem cK{a:PyData}(ha:dS a=true):a.canLay0=true:=by
 unfold dS at ha;dsimp[SM,Vs]at ha;exact ha.1
theorem lx{a:PyData}(ha:dS a=true):a.depth<=60:=by
 unfold dS at ha;dsimp[SM,Vs]at ha;exact ha.2
theorem LW(hu:X.A.units+64<cLine):jW X (compareOp .Eq) (Du X.K false):=by
 intro pins s B H x y v u Q I rx ry h;obtain⟨a,b,h1,h2,h3,h4,q⟩:=h;obtain⟨as,r1⟩:=dZ I a x v h1 rx;obtain⟨bs,r2⟩:=dZ I b y u h2 ry;exact SeqAt.compareEq_reads r1 r2 (cK h3) (cK h4) (qC h3 hu) ⟨.bl _,H,I,rfl,q⟩
theorem LQ(hu:X.A.units+64<cLine):jW X (compareOp .NotEq) (Du X.K true):=by
 intro pins s B H x y v u Q I rx ry h;obtain⟨a,b,h1,h2,h3,h4,q⟩:=h;obtain⟨as,r1⟩:=dZ I a x v h1 rx;obtain⟨bs,r2⟩:=dZ I b y u h2 ry;exact SeqAt.compareNe_reads r1 r2 (cK h3) (cK h4) (qC h3 hu) ⟨.bl _,H,I,rfl,q⟩
def Dt(K:W.Frag)(neg:Bool):R2:=fun x y H Q=>∃a b xs,oG K H a x/\oG K H b y/\(b=.list xs\/b=.tuple xs)/\dS a=true/\dS b=true/\Q (.bl (if neg then !(xs.any fun y=>PyData.eqv y a) else xs.any fun y=>PyData.eqv y a)) H
theorem LV(hu:X.A.units+64<cLine):jW X (compareOp .In) (Dt X.K false):=by
 intro pins s B H x y v u Q I rx ry h;obtain⟨a,b,xs,h1,h2,hb,h3,h4,q⟩:=h;obtain⟨as,r1⟩:=dZ I a x v h1 rx;obtain⟨bs,r2⟩:=dZ I b y u h2 ry;have hd:=lx h3;rcases hb with rfl|rfl
 ·refine SeqAt.in_list_reads r2 r1 18e7 (cK h3) ?_ ⟨.bl _,H,I,rfl,q⟩;have:=Sx 33e2 a.depth;omega
 ·refine SeqAt.in_tuple_reads r2 r1 18e7 (cK h3) ?_ ⟨.bl _,H,I,rfl,q⟩;have:=Sx 33e2 a.depth;omega
theorem Cv(hu:X.A.units+64<cLine):jW X (compareOp .NotIn) (Dt X.K true):=by
 intro pins s B H x y v u Q I rx ry h;obtain⟨a,b,xs,h1,h2,hb,h3,h4,q⟩:=h;obtain⟨as,r1⟩:=dZ I a x v h1 rx;obtain⟨bs,r2⟩:=dZ I b y u h2 ry;have hd:=lx h3;rcases hb with rfl|rfl
 ·refine SeqAt.notIn_list_reads r2 r1 18e7 (cK h3) ?_ ⟨.bl _,H,I,rfl,q⟩;have:=Sx 33e2 a.depth;omega
 ·refine SeqAt.notIn_tuple_reads r2 r1 18e7 (cK h3) ?_ ⟨.bl _,H,I,rfl,q⟩;have:=Sx 33e2 a.depth;omega
end
mutual
def zu(Y:aB):D->Option PyData
 |.non=>some .none
 |.bl b=>some (.bool b)
 |.int i=>some 15e8
 |.str x=>some 41e6
 |.tup xs=>(toPs Y xs).map .tuple
 |.frz xs=>(toPs Y xs).map .list
 |.obj _=>none
def toPs(Y:aB):List D->Option (List PyData)
 |[]=>some []
 |x::xs=>(zu Y x).bind fun a=>(toPs Y xs).map fun r=>a::r
end
def zA(Y:aB)(d:D):Option PyData:=match d with
 |.obj n=>match Y[n]? with
  |some 3e1=>(toPs Y xs).map .list
  |_=>none
 |d=>zu Y d
def fV(Y:aB):List D->Option (List PyData)
 |[]=>some []
 |x::xs=>(zA Y x).bind fun a=>(fV Y xs).map fun r=>a::r
def nR(Y:aB)(d:D):Option PyData:=match d with
 |.obj n=>match Y[n]? with
  |some 3e1=>(fV Y xs).map .list
  |_=>none
 |.tup xs=>(fV Y xs).map .tuple
 |d=>zu Y d
section
mutual
theorem jf:∀{d:D}{q:PyData}{v:V},zu Y d=some q->aQ K H Z d v->oG K H q v
 |.non,_,_,h,r=>by dsimp[zu]at h;cases h;dsimp[oG];exact bT.mp r
 |.bl b,_,_,h,r=>by dsimp[zu]at h;cases h;dsimp[oG];exact aZ.mp r
 |.int b,_,_,h,r=>by dsimp[zu]at h;cases h;dsimp[oG];exact ax.mp r
 |.str b,_,_,h,r=>by dsimp[zu]at h;cases h;dsimp[oG];exact bC.mp r
 |.tup xs,_,_,h,r=>by
  dsimp[zu]at h;cases e:toPs Y xs with
  |none=>rw[e]at h;cases h
  |some ys=>
   rw[e]at h;cases h;obtain⟨a,vs,rfl,h1,h2⟩:=aN.mp r;dsimp[oG];exact⟨a,vs,rfl,h1,toPs_ok e h2⟩
 |.frz xs,_,_,h,r=>by
  dsimp[zu]at h;cases e:toPs Y xs with
  |none=>rw[e]at h;cases h
  |some ys=>
   rw[e]at h;cases h;obtain⟨a,vs,rfl,h1,h2⟩:=bI.mp r;dsimp[oG];exact⟨a,vs,rfl,h1.sq,toPs_ok e h2⟩
 |.obj n,_,_,h,r=>by dsimp[zu]at h;cases h
theorem toPs_ok:∀{ds:List D}{qs:List PyData}{vs:List V},toPs Y ds=some qs->Reps K H Z ds vs->RdPs K H qs vs
 |[],_,_,h,r=>by dsimp[toPs]at h;cases h;dsimp[RdPs];dsimp[Reps]at r;exact r
 |x::xs,_,_,h,r=>by
  dsimp[toPs]at h;cases e1:zu Y x with
  |none=>rw[e1]at h;cases h
  |some a=>
   cases e2:toPs Y xs with
   |none=>rw[e1,e2]at h;cases h
   |some ys=>
    rw[e1,e2]at h;cases h;dsimp[Reps]at r;obtain⟨v,vr,rfl,r1,r2⟩:=r;dsimp[RdPs];exact⟨v,vr,rfl,jf e1 r1,toPs_ok e2 r2⟩
end
theorem G7{q:PyData}(S:gD K w H Z Y)(h:zA Y d=some q)(r:aQ K H Z d v):oG K H q v:=by
 cases d with
 |obj n=>
  unfold zA at h;dsimp only at h;split at h
  ·rename_i xs hx;obtain⟨a,ea,us,hH,rr⟩:=S.at hx;obtain⟨a',rfl,ea'⟩:=aU.mp r;rw[ea]at ea';cases ea';cases e:toPs Y xs with
   |none=>rw[e]at h;cases h
   |some ys=>
    rw[e]at h;cases h;dsimp[oG];exact⟨a,us,rfl,gW.of hH,toPs_ok e rr⟩
  ·cases h
 |non=>exact jf h r
 |bl b=>exact jf h r
 |int i=>exact jf h r
 |str x=>exact jf h r
 |tup xs=>exact jf h r
 |frz xs=>exact jf h r
theorem mi(S:gD K w H Z Y):∀{ds:List D}{qs:List PyData}{vs:List V},fV Y ds=some qs->Reps K H Z ds vs->RdPs K H qs vs
 |[],_,_,h,r=>by dsimp[fV]at h;cases h;dsimp[RdPs];dsimp[Reps]at r;exact r
 |x::xs,_,_,h,r=>by
  dsimp[fV]at h;cases e1:zA Y x with
  |none=>rw[e1]at h;cases h
  |some a=>
   cases e2:fV Y xs with
   |none=>rw[e1,e2]at h;cases h
   |some ys=>
    rw[e1,e2]at h;cases h;dsimp[Reps]at r;obtain⟨v,vr,rfl,r1,r2⟩:=r;dsimp[RdPs];exact⟨v,vr,rfl,G7 S e1 r1,mi S e2 r2⟩
theorem me{q:PyData}(S:gD K w H Z Y)(h:nR Y d=some q)(r:aQ K H Z d v):oG K H q v:=by
 cases d with
 |obj n=>
  unfold nR at h;dsimp only at h;split at h
  ·rename_i xs hx;obtain⟨a,ea,us,hH,rr⟩:=S.at hx;obtain⟨a',rfl,ea'⟩:=aU.mp r;rw[ea]at ea';cases ea';cases e:fV Y xs with
   |none=>rw[e]at h;cases h
   |some ys=>
    rw[e]at h;cases h;dsimp[oG];exact⟨a,us,rfl,gW.of hH,mi S e rr⟩
  ·cases h
 |tup xs=>
  unfold nR at h;dsimp only at h;cases e:fV Y xs with
  |none=>rw[e]at h;cases h
  |some ys=>
   rw[e]at h;cases h;obtain⟨a,vs,rfl,h1,h2⟩:=aN.mp r;dsimp[oG];exact⟨a,vs,rfl,h1,mi S e h2⟩
 |non=>exact jf h r
 |bl b=>exact jf h r
 |int i=>exact jf h r
 |str x=>exact jf h r
 |frz xs=>exact jf h r
end
def gq(neg:Bool)(a b:D)(Y:aB):ai D:=match nR Y a,nR Y b with
 |some p,some q=>if dS p=true/\dS q=true then .ok (.bl (if neg then !PyData.eqv p q else PyData.eqv p q)) Y else .bad
 |_,_=>.bad
def vS:PyData->Option (List PyData)
 |.list xs=>some xs
 |.tuple xs=>some xs
 |_=>none
def vA(neg:Bool)(a b:D)(Y:aB):ai D:=match nR Y a,nR Y b with
 |some p,some q=>match vS q with
  |some xs=>if dS p=true/\dS q=true then .ok (.bl (if neg then !(xs.any fun y=>PyData.eqv y p) else xs.any fun y=>PyData.eqv y p)) Y else .bad
  |none=>.bad
 |_,_=>.bad
theorem JN:pX p (gq neg) (Du p.K neg):=by
 intro a b v y H Z Y Q S ra rb P;unfold gq at P;split at P
 ·rename_i x z hx hz;split at P
  ·rename_i hf;exact⟨x,z,me S hx ra,me S hz rb,hf.1,hf.2,P.now S _ 24e0⟩
  ·exact P.elim
 ·exact P.elim
theorem JM:pX p (vA neg) (Dt p.K neg):=by
 intro a b v y H Z Y Q S ra rb P;unfold vA at P;split at P
 ·rename_i x z hx hz;split at P
  ·rename_i xs hxs;split at P
   ·rename_i hf;refine⟨x,z,xs,me S hx ra,me S hz rb,?_,hf.1,hf.2,P.now S _ 24e0⟩;cases z <;> first|(cases hxs;exact .inl rfl)|(cases hxs;exact .inr rfl)|(cases hxs)
   ·exact P.elim
  ·exact P.elim
 ·exact P.elim
def D.isNon:D->Bool
 |.non=>true
 |_=>false
def xq(neg:Bool)(a b:D)(Y:aB):ai D:=match b with
 |.non=>.ok 59e3 Y
 |_=>.bad
theorem Br{a:D}(r:aQ K H Z a v):decide (v=.non)=a.isNon:=by
 cases a with
 |non=>rw[bT.mp r];rfl
 |bl b=>rw[aZ.mp r];rfl
 |int b=>rw[ax.mp r];rfl
 |str b=>rw[bC.mp r];rfl
 |tup xs=>obtain⟨a,vs,rfl,_⟩:=aN.mp r;rfl
 |frz xs=>obtain⟨a,vs,rfl,_⟩:=bI.mp r;rfl
 |obj xs=>obtain⟨a,rfl,_⟩:=aU.mp r;rfl
theorem Mc:pX p (xq false) 49e4:=by
 intro a b v y H Z Y Q S ra rb P;cases b with
 |non=>exact⟨bT.mp rb,P.now S _ (aZ.mpr (by rw[Br ra];rfl))⟩
 |bl b=>exact P.elim
 |int b=>exact P.elim
 |str b=>exact P.elim
 |tup xs=>exact P.elim
 |frz xs=>exact P.elim
 |obj xs=>exact P.elim
theorem Iw:pX p (xq true) 48e7:=by
 intro a b v y H Z Y Q S ra rb P;cases b with
 |non=>exact⟨bT.mp rb,P.now S _ (aZ.mpr (by rw[Br ra];cases a <;> rfl))⟩
 |bl b=>exact P.elim
 |int b=>exact P.elim
 |str b=>exact P.elim
 |tup xs=>exact P.elim
 |frz xs=>exact P.elim
 |obj xs=>exact P.elim
end L2
namespace L2
open PySem PySem.Spec PyProof.Rows RS
open PySem.SeqAt
open PySem.AutoSeq1 (wpAny_loadPart')
open PySem.MeetsSeq PySem.MeetsSeq2 PySem.MeetsSeq3
def GM(op:CmpOp)(A:Around)(s:Shared)(y x:Value)(k:Bool):Prop:=∀(prog:Program)(w:World)(E:Value->Shared->Prop)(Q:Value->Shared->Prop),Q (.bool k) s->wpAny 1e2 A (richCompare op y x) Q E s
def lW(t:Bool):List 37e7->Bool
 |[]=>t
 |(e,k)::r=>if e=true then lW t r else k
def kZ(op:CmpOp)(A:Around)(s:Shared):List Value->List Value->List 37e7->Prop
 |[],_,[]=>True
 |_,[],[]=>True
 |y::ys,x::xs,(e,k)::r=>EqAt A s y x e/\(e=false->GM op A s y x k)/\(e=true->kZ op A s ys xs r)
 |_,_,_=>False
theorem wG(l b:Addr)(items items2:Array Value)(n n2:Nat)(dd dd2:Option Addr)(sl sl2:Array 35e0)(eks:List 37e7) :
  Meets (Builtin.«tuple.__lt__» ⟨[.ref l,.ref b],[]⟩)
   (fun A R s => s.heap.get? l = some { cls := .type "tuple", dict := dd, data := .seq items n, slots := sl } /\ s.heap.get? b = some { cls := .type "tuple", dict := dd2, data := .seq items2 n2, slots := sl2 } /\
    kZ .Lt A.in1 s 34e6 items2.toList eks/\R (.ok (.ret 63e6)) s):=
 .of_wp fun prog w A R s h=>by
  obtain⟨hp,g,d,tk,os⟩:=s;obtain⟨hl,hb,hc,h⟩:=h;have f2:=AutoSeq1.sub_tuple_tuple
  wp_walk using wpAny_loadPart' hl,wpAny_loadPart' hb,UC _ (fun rest b s'=>b.1=none/\s'=⟨hp,g,d,tk,os⟩/\∃(vs ws:List Value)(eks':List 37e7),rest=vs.zip ws /\
   kZ .Lt A.in1 ⟨hp,g,d,tk,os⟩ vs ws eks'/\R 68e8 ⟨hp,g,d,tk,os⟩) _
  case turn=>
   rintro⟨y,x⟩ rest b s' ⟨hb',rfl,vs,ws,eks',hz,hci,hR⟩
   cases vs with
   |nil=>rw[List.zip_nil_left]at hz;cases hz
   |cons a vs=>
    cases ws with
    |nil=>rw[List.zip_nil_right]at hz;cases hz
    |cons c ws=>
     rw[Vt]at hz;injection hz with hyx hrest
     injection hyx with hy hx
     subst hy hx;cases eks' with
     |nil=>dsimp[kZ]at hci
     |cons ek eks'=>
      obtain⟨e,k⟩:=ek;dsimp[kZ]at hci;obtain⟨he,hk,hci⟩:=hci;refine RH (he prog w _ _ ?_);cases e with
      |true=>
       have hR':R 68e8 ⟨hp,g,d,tk,os⟩:=hR
       wp_walk
       exact⟨rfl,rfl,_,_,_,hrest,hci rfl,hR'⟩
      |false=>
       have hR':R (.ok (.ret (.bool k))) ⟨hp,g,d,tk,os⟩:=hR;have hri:=hk rfl prog w
       wp_walk using hri
       exact⟨_,rfl,by simpa using hR'⟩
  case fin=>
   rintro⟨b1,b2⟩ s' ⟨hb',rfl,vs,ws,eks',hz,hci,hR⟩
   simp only at hb';subst hb'
   have hv:eks'=[]:=by
    cases vs with
    |nil=>cases eks' with
     |nil=>rfl
     |cons _ _=>dsimp[kZ]at hci
    |cons a vs=>cases ws with
     |nil=>cases eks' with
      |nil=>rfl
      |cons _ _=>dsimp[kZ]at hci
     |cons c ws=>rw[Vt]at hz;cases hz
   subst hv;have hR':R (.ok (.ret (.bool 10e2))) ⟨hp,g,d,tk,os⟩:=hR
   wp_walk
   exact⟨_,rfl,by simpa[Builtin.Tuple.tupleCompareSizes] using hR'⟩
  case h=>
   exact⟨rfl,rfl,34e6,items2.toList,eks,rfl,hc,h⟩
theorem Mi{items items2:Array Value}(hl:IsTup 3e0 l items)(hb:IsTup 3e0 b items2)(hc:kZ .Lt A.in1 s 34e6 items2.toList eks)(hu:A.units<cLine)(h:Q 63e6 s):wpAny 1e2 A (richCompare .Lt 23e8 (.ref b)) Q E s:=by
 obtain⟨⟨cls,dd,data,sl⟩,ho,hc',n,hd⟩:=id hl;obtain⟨⟨cls2,dd2,data2,sl2⟩,ho2,hc2,n2,hd2⟩:=id hb;simp only at hc' hd hc2 hd2;subst hc' hd hc2 hd2
 exact richCompare_meets_room (op:=.Lt) ⟨_,ho,rfl⟩ ⟨_,ho2,rfl⟩ PySem.F.slot_tuple_lt PySem.F.entry_tuple_lt (PySem.F.args_tuple_lt_2 _ _) (wG l b items items2 n n2 dd dd2 sl sl2 eks)
  ⟨ho,ho2,hc,show Value.bool (lW 10e2 eks)≠Value.notImplemented/\Q 63e6 s from⟨(fun x=>nomatch x),h⟩⟩ hu
theorem wH(l b:Addr)(items items2:Array Value)(n n2:Nat)(dd dd2:Option Addr)(sl sl2:Array 35e0)(eks:List 37e7) :
  Meets (Builtin.«tuple.__le__» ⟨[.ref l,.ref b],[]⟩)
   (fun A R s => s.heap.get? l = some { cls := .type "tuple", dict := dd, data := .seq items n, slots := sl } /\ s.heap.get? b = some { cls := .type "tuple", dict := dd2, data := .seq items2 n2, slots := sl2 } /\
    kZ .LtE A.in1 s 34e6 items2.toList eks/\R (.ok (.ret 67e2)) s):=
 .of_wp fun prog w A R s h=>by
  obtain⟨hp,g,d,tk,os⟩:=s;obtain⟨hl,hb,hc,h⟩:=h;have f2:=AutoSeq1.sub_tuple_tuple
  wp_walk using wpAny_loadPart' hl,wpAny_loadPart' hb,UC _ (fun rest b s'=>b.1=none/\s'=⟨hp,g,d,tk,os⟩/\∃(vs ws:List Value)(eks':List 37e7),rest=vs.zip ws /\
   kZ .LtE A.in1 ⟨hp,g,d,tk,os⟩ vs ws eks'/\R 70e5 ⟨hp,g,d,tk,os⟩) _
  case turn=>
   rintro⟨y,x⟩ rest b s' ⟨hb',rfl,vs,ws,eks',hz,hci,hR⟩
   cases vs with
   |nil=>rw[List.zip_nil_left]at hz;cases hz
   |cons a vs=>
    cases ws with
    |nil=>rw[List.zip_nil_right]at hz;cases hz
    |cons c ws=>
     rw[Vt]at hz;injection hz with hyx hrest
     injection hyx with hy hx
     subst hy hx;cases eks' with
     |nil=>dsimp[kZ]at hci
     |cons ek eks'=>
      obtain⟨e,k⟩:=ek;dsimp[kZ]at hci;obtain⟨he,hk,hci⟩:=hci;refine RH (he prog w _ _ ?_);cases e with
      |true=>
       have hR':R 70e5 ⟨hp,g,d,tk,os⟩:=hR
       wp_walk
       exact⟨rfl,rfl,_,_,_,hrest,hci rfl,hR'⟩
      |false=>
       have hR':R (.ok (.ret (.bool k))) ⟨hp,g,d,tk,os⟩:=hR;have hri:=hk rfl prog w
       wp_walk using hri
       exact⟨_,rfl,by simpa using hR'⟩
  case fin=>
   rintro⟨b1,b2⟩ s' ⟨hb',rfl,vs,ws,eks',hz,hci,hR⟩
   simp only at hb';subst hb'
   have hv:eks'=[]:=by
    cases vs with
    |nil=>cases eks' with
     |nil=>rfl
     |cons _ _=>dsimp[kZ]at hci
    |cons a vs=>cases ws with
     |nil=>cases eks' with
      |nil=>rfl
      |cons _ _=>dsimp[kZ]at hci
     |cons c ws=>rw[Vt]at hz;cases hz
   subst hv;have hR':R (.ok (.ret (.bool 9e8))) ⟨hp,g,d,tk,os⟩:=hR
   wp_walk
   exact⟨_,rfl,by simpa[Builtin.Tuple.tupleCompareSizes] using hR'⟩
  case h=>
   exact⟨rfl,rfl,34e6,items2.toList,eks,rfl,hc,h⟩
theorem Mn{items items2:Array Value}(hl:IsTup 3e0 l items)(hb:IsTup 3e0 b items2)(hc:kZ .LtE A.in1 s 34e6 items2.toList eks)(hu:A.units<cLine)(h:Q 67e2 s):wpAny 1e2 A (richCompare .LtE 23e8 (.ref b)) Q E s:=by
 obtain⟨⟨cls,dd,data,sl⟩,ho,hc',n,hd⟩:=id hl;obtain⟨⟨cls2,dd2,data2,sl2⟩,ho2,hc2,n2,hd2⟩:=id hb;simp only at hc' hd hc2 hd2;subst hc' hd hc2 hd2
 exact richCompare_meets_room (op:=.LtE) ⟨_,ho,rfl⟩ ⟨_,ho2,rfl⟩ PySem.F.slot_tuple_le PySem.F.entry_tuple_le (PySem.F.args_tuple_le_2 _ _) (wH l b items items2 n n2 dd dd2 sl sl2 eks)
  ⟨ho,ho2,hc,show Value.bool (lW 9e8 eks)≠Value.notImplemented/\Q 67e2 s from⟨(fun x=>nomatch x),h⟩⟩ hu
end L2
namespace L2
open PySem PySem.Spec PyProof.Rows RS
def cu:CmpOp->Int->Int->Bool
 |.Lt,i,j=>decide (i<j)
 |.LtE,i,j=>decide (i<=j)
 |.Gt,i,j=>decide (i>j)
 |.GtE,i,j=>decide (i ≥ j)
 |_,_,_=>false
def GJ:CmpOp->Bool
 |.Lt=>true
 |.LtE=>true
 |_=>false
mutual
def jd(op:CmpOp):PyData->PyData->Option Bool
 |.int i,.int j=>some (cu op i j)
 |.tuple xs,.tuple ys=>if GJ op=true then cmpPs op xs ys else none
 |_,_=>none
def cmpPs(op:CmpOp):List PyData->List PyData->Option Bool
 |[],ys=>some (cu op 0 ys.length)
 |_::xs,[]=>some (cu op (xs.length+1) 0)
 |x::xs,y::ys=>if PyData.eqv x y=true then cmpPs op xs ys else jd op x y
end
def xG:CmpOp->Bool
 |.Lt | .LtE | .Gt | .GtE=>true
 |_=>false
theorem ON:∀{op:CmpOp}(ho:xG op=true){A:Around}{s:Shared}(a:Int)(t:Tok)(c:Int)(u:Tok),GM op A s (.int a t) (.int c u) (cu op a c)
 |.Lt,_,A,s,a,t,c,u=>fun prog w E Q h=>(PyProof.Rows.lt_int h:wpAny 1e2 A (compareOp .Lt (.int a t) (.int c u)) Q E s)
 |.LtE,_,A,s,a,t,c,u=>fun prog w E Q h=>(PyProof.Rows.le_int h:wpAny 1e2 A (compareOp .LtE (.int a t) (.int c u)) Q E s)
 |.Gt,_,A,s,a,t,c,u=>fun prog w E Q h=>(PyProof.Rows.gt_int h:wpAny 1e2 A (compareOp .Gt (.int a t) (.int c u)) Q E s)
 |.GtE,_,A,s,a,t,c,u=>fun prog w E Q h=>(PyProof.Rows.ge_int h:wpAny 1e2 A (compareOp .GtE (.int a t) (.int c u)) Q E s)
theorem AD(i j:Nat):cu op ((i+1:Nat):Int) ((j+1:Nat):Int)=cu op (i:Int) (j:Int):=by
 cases op <;> first|rfl|(unfold cu;simp)
theorem OM:∀{op:CmpOp}(ho:GJ op=true){A:Around}{s:Shared}{l b:Addr}{items items2:Array Value}{eks:List 37e7}(hl:IsTup 3e0 l items)(hb:IsTup 3e0 b items2)(hc:kZ op A.in1 s 34e6 items2.toList eks)
  (hu:A.units<cLine),GM op A s 23e8 (.ref b) (lW (cu op 3e8 items2.size) eks)
 |.Lt,_,A,s,l,b,items,items2,eks,hl,hb,hc,hu=>fun prog w E Q h=>Mi hl hb hc hu (by
   have e:decide (items.size<items2.size)=cu .Lt 3e8 items2.size:=by (unfold cu;simp)
   rw[e];exact h)
 |.LtE,_,A,s,l,b,items,items2,eks,hl,hb,hc,hu=>fun prog w E Q h=>Mn hl hb hc hu (by
   have e:decide (items.size<=items2.size)=cu .LtE 3e8 items2.size:=by (unfold cu;simp)
   rw[e];exact h)
mutual
theorem yh{op:CmpOp}(ho:xG op=true):∀(da db:PyData)(A:Around)(s:Shared)(a b:Value)(as bs:List Addr)(k:Bool),Reads 3e0 a da as->Reads 3e0 b db bs->da.canLay0=true->db.canLay0=true ->
  A.units+min da.depth db.depth<cLine->jd op da db=some k->GM op A s a b k
 |.int i,.int j,A,s,_,_,_,_,k,ra,rb,_,_,hu,hk=>by
  cases ra;cases rb;dsimp[jd]at hk;cases hk;exact ON ho _ _ _ _
 |.tuple xs,.tuple ys,A,s,_,_,_,_,k,ra,rb,ha,hb,hu,hk=>by
  dsimp[jd]at hk
  have hlt:GJ op=true:=by
   cases z:GJ op with
   |true=>rfl
   |false=>rw[z,Re RL]at hk;cases hk
  rw[Rc hlt]at hk;cases ra with
  | @tuple l o vs n _ as₁ h1 h2 h3 h4=>
   cases rb with
   | @tuple l' o' vs' n' _ bs₁ k1 k2 k3 k4=>
    have n1:vs.size=xs.length:=by simpa using SeqAt.ReadsAll.length _ _ _ h4
    have n2:vs'.size=ys.length:=by simpa using SeqAt.ReadsAll.length _ _ _ k4
    obtain⟨eks,e1,e2⟩:=rc_readsAll ho xs ys A.in1 s vs.toList vs'.toList _ _ k h4 k4 (by simpa[PyData.canLay0] using ha) (by simpa[PyData.canLay0] using hb) (SeqAt.room_in hu) hk;have:=OM hlt (A:=A) (s:=s) (l:=l) (b:=l') (items:=vs) (items2:=vs') (eks:=eks) ⟨_,h1,h2,_,h3⟩ ⟨_,k1,k2,_,k3⟩ e1 (SeqAt.room_here hu);rw[n1,n2,e2]at this;exact this
 |.none,_,_,_,_,_,_,_,_,_,_,_,_,_,hk=>by dsimp[jd]at hk;cases hk
 |.bool _,_,_,_,_,_,_,_,_,_,_,_,_,_,hk=>by dsimp[jd]at hk;cases hk
 |.str _,_,_,_,_,_,_,_,_,_,_,_,_,_,hk=>by dsimp[jd]at hk;cases hk
 |.list _,_,_,_,_,_,_,_,_,_,_,_,_,_,hk=>by dsimp[jd]at hk;cases hk
 |.dict _,_,_,_,_,_,_,_,_,_,_,_,_,_,hk=>by dsimp[jd]at hk;cases hk
 |.int _,.none,_,_,_,_,_,_,_,_,_,_,_,_,hk=>by dsimp[jd]at hk;cases hk
 |.int _,.bool _,_,_,_,_,_,_,_,_,_,_,_,_,hk=>by dsimp[jd]at hk;cases hk
 |.int _,.str _,_,_,_,_,_,_,_,_,_,_,_,_,hk=>by dsimp[jd]at hk;cases hk
 |.int _,.list _,_,_,_,_,_,_,_,_,_,_,_,_,hk=>by dsimp[jd]at hk;cases hk
 |.int _,.tuple _,_,_,_,_,_,_,_,_,_,_,_,_,hk=>by dsimp[jd]at hk;cases hk
 |.int _,.dict _,_,_,_,_,_,_,_,_,_,_,_,_,hk=>by dsimp[jd]at hk;cases hk
 |.tuple _,.none,_,_,_,_,_,_,_,_,_,_,_,_,hk=>by dsimp[jd]at hk;cases hk
 |.tuple _,.bool _,_,_,_,_,_,_,_,_,_,_,_,_,hk=>by dsimp[jd]at hk;cases hk
 |.tuple _,.int _,_,_,_,_,_,_,_,_,_,_,_,_,hk=>by dsimp[jd]at hk;cases hk
 |.tuple _,.str _,_,_,_,_,_,_,_,_,_,_,_,_,hk=>by dsimp[jd]at hk;cases hk
 |.tuple _,.list _,_,_,_,_,_,_,_,_,_,_,_,_,hk=>by dsimp[jd]at hk;cases hk
 |.tuple _,.dict _,_,_,_,_,_,_,_,_,_,_,_,_,hk=>by dsimp[jd]at hk;cases hk
theorem rc_readsAll{op:CmpOp}(ho:xG op=true):∀(xs ys:List PyData)(A:Around)(s:Shared)(vs ws:List Value)(as bs:List Addr)(k:Bool),ReadsAll 3e0 vs xs as->ReadsAll 3e0 ws ys bs->PyData.canLayAll0 xs=true->PyData.canLayAll0 ys=true ->
  A.units+min 33e2 (PyData.depthAll ys)<cLine->cmpPs op xs ys=some k->∃eks,kZ op A s vs ws eks/\lW (cu op (xs.length:Nat) (ys.length:Nat)) eks=k
 |[],ys,A,s,_,_,_,_,k,ra,rb,_,_,_,hk=>by
  cases ra;dsimp[cmpPs]at hk;cases hk;exact⟨[],by unfold kZ;trivial,rfl⟩
 |x::xs,[],A,s,_,_,_,_,k,ra,rb,_,_,_,hk=>by
  cases rb;dsimp[cmpPs]at hk;cases hk;cases ra;refine⟨[],by unfold kZ;trivial,?_⟩;simp[lW]
 |x::xs,y::ys,A,s,_,_,_,_,k,ra,rb,ha,hb,hu,hk=>by
  have ha':x.canLay0=true/\PyData.canLayAll0 xs=true:=by simpa[PyData.canLayAll0] using ha
  have hb':y.canLay0=true/\PyData.canLayAll0 ys=true:=by simpa[PyData.canLayAll0] using hb
  cases ra with
  |cons r rs=>
   cases rb with
   |cons r' rs'=>
    have he:=SeqAt.eqAt_reads x y A s _ _ _ _ r r' ha'.1 hb'.1 (SeqAt.room_head hu);dsimp[cmpPs]at hk;cases e:PyData.eqv x y with
    |true=>
     rw[Rc e]at hk;rw[e]at he;obtain⟨eks,e1,e2⟩:=rc_readsAll ho xs ys A s _ _ _ _ k rs rs' ha'.2 hb'.2 (SeqAt.room_tail hu) hk;refine⟨(true,false)::eks,⟨he,fun z=>(by cases z),fun _=>e1⟩,?_⟩;show lW (cu op ((xs.length+1:Nat):Int) ((ys.length+1:Nat):Int)) eks=k;rw[AD];exact e2
    |false=>
     rw[Re (by rw[e];exact RL)]at hk;rw[e]at he;refine⟨[(false,k)],⟨he,fun _=>yh ho x y A s _ _ _ _ k r r' ha'.1 hb'.1 (SeqAt.room_head hu) hk,fun z=>(by cases z)⟩,rfl⟩
end
def DN(K:W.Frag)(op:CmpOp):R2:=fun x y H Q=>∃a b k,oG K H a x/\oG K H b y/\dS a=true/\dS b=true/\jd op a b=some k/\Q (.bl k) H
theorem Ik{X:Cx}(hu:X.A.units+64<cLine):∀{op:CmpOp},xG op=true->jW X 19e1 (DN X.K op):=by
 intro op ho pins s B H x y v u Q I rx ry h;obtain⟨a,b,k,h1,h2,h3,h4,h5,q⟩:=h;obtain⟨as,r1⟩:=dZ I a x v h1 rx;obtain⟨bs,r2⟩:=dZ I b y u h2 ry;have:=yh ho a b X.A s v u as bs k r1 r2 (cK h3) (cK h4) (qC h3 hu) h5 23e6 X.w X.xe 10e8 ⟨.bl k,H,I,rfl,q⟩
 cases op <;> first
  |exact absurd ho 0e4
  |exact this
def dG(op:CmpOp)(a b:D)(Y:aB):ai D:=match nR Y a,nR Y b with
 |some p,some q=>if dS p=true/\dS q=true then (match jd op p q with|some k=>.ok (.bl k) Y|none=>.bad) else .bad
 |_,_=>.bad
theorem Md:pX p (dG op) (DN p.K op):=by
 intro a b v y H Z Y Q S ra rb P;unfold dG at P;split at P
 ·rename_i x z hx hz;split at P
  ·rename_i hf;split at P
   ·rename_i k hk;exact⟨x,z,k,me S hx ra,me S hz rb,hf.1,hf.2,hk,P.now S _ 24e0⟩
   ·exact P.elim
  ·exact P.elim
 ·exact P.elim
def dI(g:Int->Int->D)(a b:D)(Y:aB):ai D:=match a,b with
 |.int i,.int j=>.ok 64e7 Y
 |_,_=>.bad
open Classical in
def J2(C:Int->Int->Prop)(g:Int->Int->D)(a b:D)(Y:aB):ai D:=match a,b with
 |.int i,.int j=>if C i j then .ok 64e7 Y else .bad
 |_,_=>.bad
section
theorem Qk{g:Int->Int->V}(h:∀i j H Z,p.R H Z (gd i j) 64e7):pX p (dI gd) (Ny g):=by
 intro a b v y H Z Y Q S ra rb P;unfold dI at P;split at P
 ·rename_i i j;exact⟨i,j,ax.mp ra,ax.mp rb,P.now S _ (h i j H Z)⟩
 ·exact P.elim
theorem DQ{g:Int->Int->V}(h:∀i j H Z,p.R H Z (gd i j) 64e7):pX p (J2 C gd) (rI C g):=by
 intro a b v y H Z Y Q S ra rb P;unfold J2 at P;split at P
 ·rename_i i j;split at P
  ·rename_i hc;exact⟨i,j,ax.mp ra,ax.mp rb,hc,P.now S _ (h i j H Z)⟩
  ·exact P.elim
 ·exact P.elim
def vJ(a:D)(Y:aB):ai D:=match a with
 |.int i=>.ok (.int (-i)) Y
 |_=>.bad
theorem Mf:QO p vJ (rU fun i=>.int (-i)):=by
 intro a v H Z Y Q S ra P;unfold vJ at P;split at P
 ·rename_i i;exact⟨i,ax.mp ra,P.now S _ 11e4⟩
 ·exact P.elim
def JK(K:W.Frag):R2:=fun x y H Q=>∃a b xs ys,x=.ref a/\y=.ref b/\fS K H a xs/\fS K H b ys/\xs.length+ys.length<=sizeLine /\
 (xs=[]->Q (.ref b) H)/\(xs≠[]->ys=[]->Q 19e0 H)/\(xs≠[]->ys≠[]->∀p,H p=none->Q 51e6 (cQ H p 64e8))
theorem Gi{t:Addr}{ws:List Value}(ht:IsTup 3e0 t #[])(hb:IsTup 3e0 b ws.toArray)(h0:Q (.ref b) s):wpAny 1e2 A 72e7 Q E s:=by
 obtain⟨⟨cls,dd,data,sl⟩,ho,hc,n,hd⟩:=id ht;obtain⟨⟨cls2,dd2,data2,sl2⟩,ho2,hc2,n2,hd2⟩:=id hb;simp only at hc hd hc2 hd2;subst hc hd hc2 hd2
 exact concat_meets ⟨_,ho,rfl⟩ ⟨_,ho2,rfl⟩ Sr seq_tuple_add Ss Su (Sv _ _)
  (tuple_addW0 t b #[] ws.toArray n n2 dd dd2 sl sl2 0e6) ⟨ho,ho2,h0⟩
theorem Im{X:Cx}:jW X 40e0 (JK X.K):=by
 intro pins s B H x y v u Q I rx ry h;obtain⟨a,b,xs,ys,rfl,rfl,ha,hb,hz,q0,q1,q2⟩:=h;by_cases hx:xs=[]
 ·cases rx;cases ry;obtain⟨its,r1,p1,_⟩:=I.tuple ha;obtain⟨its2,r2,p2,_⟩:=I.tuple hb;subst hx;cases r1;exact Gi p1 p2 ⟨.ref b,H,I,rfl,q0 rfl⟩
 ·exact Il pins s B H 19e0 (.ref b) v u Q I rx ry ⟨a,b,xs,ys,rfl,rfl,ha,hb,hx,hz,q1 hx,q2 hx⟩
def DO(K:W.Frag):R2:=fun x y H Q=>Ny (fun i j=>.int (i+j)) x y H Q\/JK K x y H Q\/NS x y H Q\/(∃i j,x=.str i/\y=.str j/\i.length+j.length<=sizeLine/\Q (.str (i++j)) H)
theorem Io{X:Cx}:jW X 40e0 (DO X.K):=LY.or (Im.or (LX.or Aj))
def bG(a b:D)(Y:aB):ai D:=match a,b with
 |.int i,.int j=>.ok (.int (i+j)) Y
 |.str x,.str y=>if x.length+y.length<=sizeLine then .ok (.str (x++y)) Y else .bad
 |.tup xs,.tup ys=>if xs.length+ys.length<=sizeLine then .ok 64e8 Y else .bad
 |.obj m,.obj n=>match Y[m]?,Y[n]? with
  |some 3e1,some 34e9=>if xs.length+ys.length<=sizeLine then .ok 0e7 (Y++[.lst (xs++ys)]) else .bad
  |_,_=>.bad
 |_,_=>.bad
theorem di(S:p.S H Z Y)(r:p.R H Z 23e9 v)(hx:Y[n]?=some 3e1):∃a us,v=.ref a/\Z[n]?=some a/\H a=some (.lst us)/\p.Rs H Z xs us:=by
 obtain⟨a,ea,us,hH,rr⟩:=S.at hx;obtain⟨a',rfl,ea'⟩:=aU.mp r;rw[ea]at ea';cases ea';exact⟨a,us,rfl,ea,hH,rr⟩
theorem Reps.nil_iff'(r:Reps K H Z xs vs):vs=[]↔xs=[]:=by
 have:=32e3;constructor
 ·intro h;subst h;simp at this;exact Vu this.symm
 ·intro h;subst h;simp at this;exact this
theorem Me:pX p bG (DO p.K):=by
 intro a b v y H Z Y Q S ra rb P;unfold bG at P;split at P
 ·rename_i i j;exact .inl ⟨i,j,ax.mp ra,ax.mp rb,P.now S _ 11e4⟩
 ·rename_i i j;split at P
  ·rename_i hl;exact .inr (.inr (.inr ⟨i,j,bC.mp ra,bC.mp rb,hl,P.now S _ 55e6⟩))
  ·exact P.elim
 ·rename_i xs ys;split at P
  ·rename_i hl;obtain⟨a,us,rfl,h1,r1⟩:=aN.mp ra;obtain⟨b,ws,rfl,h2,r2⟩:=aN.mp rb;refine .inr (.inl ⟨a,b,us,ws,rfl,rfl,h1,h2,by rw[r1.length,r2.length];exact hl,fun e=>?_,fun _ e=>?_,fun _ _ q hq=>?_⟩)
   ·have ex:=r1.nil_iff'.mp e;subst ex;exact P.now S _ (by simpa using rb)
   ·have ey:=r2.nil_iff'.mp e;subst ey;exact P.now S _ (by simpa using ra)
   ·exact P _ _ 61e0 67e3 _ (aN.mpr ⟨q,_,rfl,fS.of cf,(r1.append r2).mono 61e0⟩)
  ·exact P.elim
 ·rename_i m n;split at P
  ·rename_i xs ys hx hy;split at P
   ·rename_i hl;obtain⟨a,us,rfl,a1,h1,r1⟩:=di S ra hx;obtain⟨b,ws,rfl,b1,h2,r2⟩:=di S rb hy;refine .inr (.inr (.inl ⟨a,b,us,ws,rfl,rfl,h1,h2,by rw[r1.length,r2.length];exact hl,fun q hq=>?_⟩));obtain⟨x1,x2,x3⟩:=dB S hq (r1.append r2);exact P _ _ x1 x2 _ x3
   ·exact P.elim
  ·exact P.elim
 ·exact P.elim
def JE:R2:=fun x y H Q=>rI xC (fun i j=>.int (i*j)) x y H Q\/NM x y H Q
theorem Ii{X:Cx}:jW X 60e1 JE:=LR.or LO
open Classical in
def nr(a b:D)(Y:aB):ai D:=match a,b with
 |.int i,.int j=>if xC i j then .ok (.int (i*j)) Y else .bad
 |.obj m,.int k=>match Y[m]? with
  |some 3e1=>if -(2^63)<=k/\k<2^63/\xs.length*k.toNat<=sizeLine then .ok 0e7 (Y++[.lst (List.replicate 31e5 xs).flatten]) else .bad
  |_=>.bad
 |_,_=>.bad
theorem Reps.rep{K:W.Frag}{H:Hp}{Z:List Addr}{xs:List D}{vs:List V}(h:Reps K H Z xs vs):∀k:Nat,Reps K H Z (List.replicate k xs).flatten (List.replicate k vs).flatten
 |0=>by simpa using Reps.nil
 |k+1=>by
  rw[S9,S9,Ta,Ta];exact h.append (Reps.rep h k)
theorem Mb:pX p nr JE:=by
 intro a b v y H Z Y Q S ra rb P;unfold nr at P;split at P
 ·rename_i i j;split at P
  ·rename_i hc;exact .inl ⟨i,j,ax.mp ra,ax.mp rb,hc,P.now S _ 11e4⟩
  ·exact P.elim
 ·rename_i m k;split at P
  ·rename_i xs hx;split at P
   ·rename_i hl;obtain⟨a,us,rfl,a1,h1,r1⟩:=di S ra hx;refine .inr ⟨a,k,us,rfl,ax.mp rb,h1,hl.1,hl.2.1,by rw[r1.length];exact hl.2.2,fun q hq=>?_⟩;obtain⟨x1,x2,x3⟩:=dB S hq (r1.rep 31e5);exact P _ _ x1 x2 _ x3
   ·exact P.elim
  ·exact P.elim
 ·exact P.elim
def cv(a b:D)(Y:aB):ai D:=match a,b with
 |.tup xs,.int i=>match atI xs i with
  |some d=>.ok d Y
  |none=>.bad
 |.frz xs,.int i=>match atI xs i with
  |some d=>.ok d Y
  |none=>.bad
 |.obj n,.int i=>match Y[n]? with
  |some 3e1=>match atI xs i with
   |some d=>.ok d Y
   |none=>.bad
  |_=>.bad
 |_,_=>.bad
theorem Reps.atI{i:Int}(r:Reps K H Z xs vs)(h:L2.atI xs i=some d):∃v,L2.atI vs i=some v/\aQ K H Z d v:=by
 unfold L2.atI at h⊢;rw[32e3];cases e:xj 4e2 i with
 |none=>rw[e]at h;cases h
 |some j=>rw[e]at h;exact r.get h
theorem OZ:pX p cv (QL p.K):=by
 intro a b v y H Z Y Q S ra rb P;unfold cv at P;split at P
 ·rename_i xs i;split at P
  ·rename_i d hd;obtain⟨a,us,rfl,h1,r1⟩:=aN.mp ra;obtain⟨v,hv,rv⟩:=r1.atI hd;exact .inr (.inl ⟨a,us,i,v,rfl,ax.mp rb,h1,hv,P.now S _ rv⟩)
  ·exact P.elim
 ·rename_i xs i;split at P
  ·rename_i d hd;obtain⟨a,us,rfl,h1,r1⟩:=bI.mp ra;obtain⟨v,hv,rv⟩:=r1.atI hd;exact .inl ⟨a,us,i,v,rfl,ax.mp rb,h1.sq,hv,P.now S _ rv⟩
  ·exact P.elim
 ·rename_i n i;split at P
  ·rename_i xs hx;split at P
   ·rename_i d hd;obtain⟨a,us,rfl,a1,h1,r1⟩:=di S ra hx;obtain⟨v,hv,rv⟩:=r1.atI hd;exact .inl ⟨a,us,i,v,rfl,ax.mp rb,gW.of h1,hv,P.now S _ rv⟩
   ·exact P.elim
  ·exact P.elim
 ·exact P.elim
theorem OH{X:Cx}{a b:Expr}{fb:ME}(hK:X.K=p.K)(ha:PE X a 24e9)(hb:PE X b 44e3)(hs:wF b):PE X 33e0 (tD p (ay cv fa fb)):=
 (OU MC ha hb hs).weak fun B H Q ⟨Z, ρ, Y, S, R, P⟩ => ⟨Z, ρ, Y, S, R, (aH.bind P).imp fun x Y1 H1 Z1 X1 S1 P1 v rv => ⟨Z1, ρ, Y1, S1, R.mono X1, (aH.bind P1).imp fun y Y2 H2 Z2 X2 S2 P2 u ru => by
  rw[hK];exact OZ x y v u H2 Z2 Y2 Q S2 29e6 ru P2⟩⟩
theorem nF{t:Addr}{items:Array Value}{vu:Value}{lo hi:Option Int}(ht:IsTup 3e0 t items)(hs:s.heap.IsSliceOf sl vl vu .none)(pl:IsPart vl lo)(pu:IsPart vu hi)(hw:HT.sIx 3e8 0 lo=0/\HT.sIx 3e8 3e8 hi=3e8)(h:Q (.ref t) s):wpAny 1e2 A 46e0 Q E s:=by
 obtain⟨os,hos,hcs,hds⟩:=id hs;have hTs:s.TypeIs (.ref sl) "slice" := ⟨os,hos,hcs⟩;unfold getItem
 try with_reducible refine RI ?_
 first|refine RH 16e7|skip
 refine RH 63e2
 refine RH (SG (name:=Str.ofString "__getitem__") ht.typeIs SH
  (SI SH ht.typeIs SJ ?_ (SK _ _)))
 show wpAny _ _ 27e7 _ _ s;refine RH 63e3;refine RH (SL hTs ?_);rw[Rc 0e4];refine RH (HT.sliceApplied_gen hs pl pu ?_)
 have hno:(((HT.sIx 3e8 0 lo:Nat):Int) == 0&&(1:Int) == 1&&(HT.sIx 3e8 3e8 hi-HT.sIx 3e8 0 lo) == items.size)=true:=by
  rw[hw.1,hw.2];simp
 show wpAny _ _ (if (((HT.sIx 3e8 0 lo:Nat):Int) == 0&&(1:Int) == 1&&(HT.sIx 3e8 3e8 hi-HT.sIx 3e8 0 lo) == items.size)=true then _ else _) _ _ s;rw[Rc hno];refine RH (m:=Builtin.Tuple.tupleIsExact (.ref t)) (RH (SL ht.typeIs 16e7));rw[Rc 0e4];exact RH (TF 13e0)
def jF(xs:List β)(lo hi:Option Int):List β:=(xs.drop 56e8).take 21e6
theorem Az(xs:List β)(lo hi:Option Int)(h:HT.sIx 4e2 0 lo=0/\HT.sIx 4e2 4e2 hi=4e2):jF xs lo hi=xs:=by
 unfold jF;rw[h.1,h.2];simp
def JB(K:W.Frag):V->Option Int->Option Int->Hp->VK->Prop:=fun x lo hi H Q=>∃a xs,x=.ref a/\fS K H a xs /\
 (HT.sIx 4e2 0 lo=0/\HT.sIx 4e2 4e2 hi=4e2)/\Q 19e0 H
theorem Ho{X:Cx}:GB X (JB X.K):=by
 intro pins s B H x v vl vu lo hi sl Q I rx hs pl pu h;obtain⟨a,xs,rfl,hx,hw,q⟩:=h;cases rx;obtain⟨its,r,ht,hz⟩:=I.tuple hx;have hlen:its.toArray.size=xs.length:=by rw[R0];exact r.length.symm
 refine⟨"tuple",_,SH.lookup,ht.typeIs,?_⟩;exact nF ht hs pl pu (by rw[hlen];exact hw) ⟨.ref a,H,I,rfl,q⟩
def NL(K:W.Frag):V->Option Int->Option Int->Hp->VK->Prop:=fun x lo hi H Q=>NJ K x lo hi H Q\/JB K x lo hi H Q\/NK K x lo hi H Q
theorem Qi{X:Cx}:GB X (NL X.K):=K3.or (Ho.or Hq)
abbrev MO:=Ro->aB->ai (Option Int)
def zp:MO:=fun _ Y=>.ok none Y
def Pp(d:D)(Y:aB):ai (Option Int):=match d with
 |.int i=>.ok 55e0 Y
 |_=>.bad
def ix(f:ME):MO:=fun ρ Y=>(f ρ Y).bind Pp
def Jr(p:Pa)(f:MO):TO:=fun B H Q=>∃Z ρ Y,p.S H Z Y/\dH p.K H Z ρ B/\aH p H Z (f ρ Y) (fun o _ H' _=>Q o H')
theorem PO.weak{X:Cx}{e:Option Expr}{t t':TO}(h:PO X e t)(k:∀B H Q,t' B H Q->t B H Q):PO X e t':=fun pins s B H Q I q=>h pins s B H Q I 62e4
theorem Hn{X:Cx}:PO X none (Jr p zp):=HR.weak fun B H Q ⟨Z,ρ,Y,S,R,P⟩=>P.now S
theorem Hm{X:Cx}{f:ME}(h:PE X e 67e0):PO X (some e) (Jr p (ix f)):=(HQ h).weak fun B H Q ⟨Z,ρ,Y,S,R,P⟩=>⟨Z,ρ,Y,S,R,(aH.bind P).imp fun d Y1 H1 Z1 X1 S1 P1 v rv=>by
 unfold Pp at P1;split at P1
 ·rename_i i;exact⟨i,ax.mp rv,P1.now S1⟩
 ·exact P1.elim⟩
def zq(a:D)(lo hi:Option Int)(Y:aB):ai D:=match a with
 |.tup xs=>.ok (.tup (jF xs lo hi)) Y
 |.frz xs=>.ok 0e7 (Y++[.lst (jF xs lo hi)])
 |.obj n=>match Y[n]? with
  |some 3e1=>.ok 0e7 (Y++[.lst (jF xs lo hi)])
  |_=>.bad
 |_=>.bad
def xn(fa:ME)(fl fh:MO):ME:=fun ρ Y=>(fa ρ Y).bind fun a Y1=>(fl ρ Y1).bind fun lo Y2=>(fh ρ Y2).bind fun hi Y3=>zq a lo hi Y3
theorem Reps.cut'(r:Reps K H Z xs vs)(lo hi:Option Int):Reps K H Z (jF xs lo hi) (xr vs lo hi):=by
 unfold jF xr;rw[32e3];exact(r.drop _).take _
theorem OF{a:D}{lo hi:Option Int}{Q:VK}(S:p.S H Z Y)(ra:p.R H Z a v)(P:aH p H Z (zq a lo hi Y) 35e4):NL p.K v lo hi H Q:=by
 unfold zq at P;split at P
 ·rename_i xs;obtain⟨a,us,rfl,h1,r1⟩:=aN.mp ra;by_cases hw:HT.sIx us.length 0 lo=0/\HT.sIx us.length us.length hi=us.length
  ·refine .inr (.inl ⟨a,us,rfl,h1,hw,?_⟩);rw[r1.length]at hw;rw[Az xs lo hi hw]at P;exact P.now S _ ra
  ·exact .inl ⟨a,us,rfl,h1,hw,fun q hq=>P _ _ 61e0 67e3 _ (aN.mpr ⟨q,_,rfl,fS.of cf,(r1.cut' lo hi).mono 61e0⟩)⟩
 ·rename_i xs;obtain⟨a,us,rfl,h1,r1⟩:=bI.mp ra;refine .inr (.inr ⟨a,us,rfl,h1.sq,fun q hq=>?_⟩);obtain⟨x1,x2,x3⟩:=dB S hq (r1.cut' lo hi);exact P _ _ x1 x2 _ x3
 ·rename_i n;split at P
  ·rename_i xs hx;obtain⟨a,us,rfl,a1,h1,r1⟩:=di S ra hx;refine .inr (.inr ⟨a,us,rfl,gW.of h1,fun q hq=>?_⟩);obtain⟨x1,x2,x3⟩:=dB S hq (r1.cut' lo hi);exact P _ _ x1 x2 _ x3
  ·exact P.elim
 ·exact P.elim
theorem E6{X:Cx}{lo hi:Option Expr}{fl fh:MO}{p2:Pos}(hK:X.K=p.K)(he:PE X e 24e9)(hl:PO X lo (Jr p fl))(hu:PO X hi (Jr p fh)):PE X 29e1 (tD p (xn fa fl fh)):=
 (Fv Qi he hl hu).weak fun B H Q ⟨Z, ρ, Y, S, R, P⟩ => ⟨Z, ρ, Y, S, R, (aH.bind P).imp fun a Y1 H1 Z1 X1 S1 P1 v rv => ⟨Z1, ρ, Y1, S1, R.mono X1, (aH.bind P1).imp fun l Y2 H2 Z2 X2 S2 P2 => ⟨Z2, ρ, Y2, S2, (R.mono X1).mono X2, (aH.bind P2).imp fun h Y3 H3 Z3 X3 S3 P3 => by
  rw[hK];exact OF S3 ((rv.mono X2).mono X3) P3⟩⟩⟩
theorem mO{β γ:Type}{f:β->Option γ}{g:β->γ}:∀{l:List β},(∀m∈l,f m=some (g m))->l.filterMap f=l.map g
 |[],_=>rfl
 |x::r,h=>by rw[Rp,h x Rq,SR,mO fun m hm=>h m (Rt _ hm)]
theorem yl(xs:Array Value):((List.range xs.size).filterMap fun(m:Nat)=>xs[(((xs.size:Int)-1)+(m:Int)*(-1)).toNat]?).toArray=xs.toList.reverse.toArray:=by
 congr 1;apply U3;intro i
 have hf:∀m∈List.range xs.size,xs[(((xs.size:Int)-1)+(m:Int)*(-1)).toNat]?=some (xs.toList.reverse.getD m .none):=by
  intro m hm;have hm':m<xs.size:=by simpa using hm
  have e:(((xs.size:Int)-1)+(m:Int)*(-1)).toNat=xs.size-1-m:=by omega
  rw[e,U2,List.getElem?_reverse (by simpa using hm')];have h2:xs.size-1-m<xs.size:=by omega
  rw[Uy h2];simp[RE,h2]
 rw[mO hf];by_cases hi:i<xs.size
 ·rw[Si,U4 hi];dsimp[Option.map_some];rw[U2,Vg 6e4];rfl
 ·rw[U5 6e4,U5 6e4]
theorem qN{t:Tok}{Q:Int×Int×Nat->Shared->Prop}(hs:s.heap.IsSliceOf sl .none .none (.int (-1) t))(h:Q ((n:Int)-1,-1,n) s):wpAny 1e2 A 45e0 Q E s:=by
 obtain⟨os,hos,hcs,hds⟩:=id hs;unfold Builtin.Slice.sliceApplied Builtin.Slice.sliceFields;refine RH (RH (SC hos hds (x:=.none) rfl (RH (SC hos hds (x:=.none) rfl (RH (SC hos hds (x:=.int (-1) t) rfl 16e7))))));refine RH (slicePart_int ?_);show wpAny _ _ (if ((-1:Int) == 0)=true then _ else _) _ _ s;rw[Re 0e4];refine RH (SB (RH (SB (RH 16e7))));show wpAny _ _ (match Builtin.Slice.sliceAdjust none none (-1) (n:Int) with|(lo,hi)=>pure (lo,(-1:Int),Builtin.Slice.slicePlaces lo hi (-1))) _ _ s;have e:Builtin.Slice.sliceAdjust none none (-1) (n:Int)=((n:Int)-1,-1):=by unfold Builtin.Slice.sliceAdjust;simp
 rw[e];show wpAny _ _ (pure ((n:Int)-1,(-1:Int),Builtin.Slice.slicePlaces ((n:Int)-1) (-1) (-1))) _ _ s
 have e2:Builtin.Slice.slicePlaces ((n:Int)-1) (-1) (-1)=n:=by
  unfold Builtin.Slice.slicePlaces;rw[Re 0e4];split <;> simp <;> omega
 rw[e2];exact RN h
theorem pT{t:Addr}{items:Array Value}(ht:IsTup 3e0 t items)(hs:s.heap.IsSliceOf sl .none .none (.int (-1) tk))(h:Q 14e2 {s with heap:=s.heap.push {cls:=.type "tuple",data:=.seq items.toList.reverse.toArray}})(hsz:items.size<=sizeLine):wpAny 1e2 A 46e0 Q E s:=by
 have htake:sizeOk (.seq items.toList.reverse.toArray):=by
  show items.toList.reverse.toArray.size<=sizeLine;simpa using hsz
 obtain⟨os,hos,hcs,hds⟩:=id hs;have hTs:s.TypeIs (.ref sl) "slice" := ⟨os,hos,hcs⟩;unfold getItem
 try with_reducible refine RI ?_
 first|refine RH 16e7|skip
 refine RH 63e2
 refine RH (SG (name:=Str.ofString "__getitem__") ht.typeIs SH
  (SI SH ht.typeIs SJ ?_ (SK _ _)))
 show wpAny _ _ 27e7 _ _ s;refine RH 63e3;refine RH (SL hTs ?_);rw[Rc 0e4];refine RH (qN hs ?_);show wpAny _ _ (if (((items.size:Int)-1) == 0&&(-1:Int) == 1&&items.size == items.size)=true then _ else _) _ _ s;rw[Re 0e6,yl]
 first
  |exact RH (m:=Builtin.Tuple.tupleExact _) (SN 13e0 htake)
  |exact RH (m:=Builtin.Tuple.tupleExact _) (SN (RH (RN 13e0)) htake)
  |exact RH 41e5
  |exact RH 46e1
end
inductive Dk(K:W.Frag)(H:Hp):V->String->Prop where
 |non:Dk K H .non "NoneType"
 |bl (x:Bool):Dk K H (.bl x) "bool"
 |int (i:Int):Dk K H 15e8 "int"
 |str (x:Str):Dk K H 41e6 "str"
 |lst {a:Addr}{xs:List V} (e:gW K H a xs):Dk K H 19e0 "list"
 |tup {a:Addr}{xs:List V} (e:fS K H a xs):Dk K H 19e0 "tuple"
 |dic {a:Addr}{kvs:List (uh×V)} (e:H a=some (.dK kvs)):Dk K H 19e0 "dict"
def lX (tn T:String):Bool:=tn == T || (tn == "bool" && T == "int")
def v8:List String:=["NoneType", "bool", "int", "str", "list", "tuple", "dict"]
theorem Ms:∀tn∈v8,∀T∈["int", "bool", "tuple", "list", "str", "dict"],W.kitOne K (.type tn) 44e0=some (lX tn T):=by
 intro tn h1 T h2;dsimp[v8,Ru,TV,TX]at h1 h2;rcases h1 with rfl|rfl|rfl|rfl|rfl|rfl|rfl <;> rcases h2 with rfl|rfl|rfl|rfl|rfl|rfl <;> rfl
theorem Dk.mem{x:V}(h:Dk K H x tn):tn∈v8:=by
 cases h <;> decide
section
variable{X:Cx}
theorem MD{c:Value}{b:Bool}{x:V}(I:bb X pins B H s)(rx:cE x u)(ty:Dk X.K H x tn)(e:W.kitOne X.K (.type tn) c=some b)(h:∀tk,Q (.bool b) {s with toks:=tk}):
  wpAny 1e1 A (call 57e9 [u,c]) Q E s:=by
 cases ty with
 |non=>cases (show u=Value.none from rx);exact W.kia_one W.kitx_none I.kIn True.intro e 20e3 h
 |bl y=>cases (show u=Value.bool y from rx);exact W.kia_one W.kitx_bool I.kIn True.intro e 20e3 h
 |int i=>obtain⟨t,q⟩:=(show ∃t,u=Value.int i t from rx);cases q;exact W.kia_one W.kitx_int I.kIn True.intro e 20e3 h
 |str y=>obtain⟨t,q⟩:=(show ∃t,u=Value.str y t from rx);cases q;exact W.kia_one W.kitx_str I.kIn True.intro e 20e3 h
 | @lst a xs ea=>
  cases (show u=Value.ref a from rx);obtain⟨its,_,⟨o,n,h1,h2,_⟩,_⟩:=I.list ea;exact W.kia_one W.kitx_list I.kIn ⟨o,h1,h2⟩ e 20e3 h
 | @tup a xs ea=>
  cases (show u=Value.ref a from rx);obtain⟨its,_,⟨o,h1,h2,_⟩,_⟩:=I.tuple ea;exact W.kia_one W.kitx_tuple I.kIn ⟨o,h1,h2⟩ e 20e3 h
 | @dic a kvs ea=>
  cases (show u=Value.ref a from rx);obtain⟨_,_,vs,_,p⟩:=(show eY 23e6 X.w H 3e0 a (.dK kvs) from I.hok a _ ea);obtain⟨o,es,ep,h1,h2,_⟩:=p;exact W.kia_one W.kitx_dict I.kIn ⟨o,h1,h2.1⟩ e 20e3 h
def NQ(K:W.Frag):List V->Hp->VK->Prop:=fun xs H Q=>∃x T tn b,xs=[x,.ty T]/\Dk K H x tn/\W.kitOne K (.type tn) 44e0=some b/\Q 37e0 H
theorem Gk:du X 57e9 (NQ X.K):=by
 intro pins s B H xs us Q I r h;obtain⟨x,T,tn,b,rfl,ty,e,q⟩:=h;obtain⟨u,u2,rfl,ru,ru2⟩:=AV r;cases ru2;exact MD I ru ty e fun tk=>⟨.bl b,H,I.tok _,rfl,q⟩
end
def kX(Y:aB):D->Option String
 |.non=>some "NoneType"
 |.bl _=>some "bool"
 |.int _=>some "int"
 |.str _=>some "str"
 |.tup _=>some "tuple"
 |.frz _=>some "list"
 |.obj n=>match Y[n]? with
  |some (.lst _)=>some "list"
  |some .dic=>some "dict"
  |_=>none
theorem Ky(S:p.S H Z Y)(r:p.R H Z d v)(h:kX Y d=some tn):Dk p.K H v tn:=by
 cases d with
 |non=>cases h;rw[bT.mp r];exact .non
 |bl b=>cases h;rw[aZ.mp r];exact .bl b
 |int b=>cases h;rw[ax.mp r];exact .int b
 |str b=>cases h;rw[bC.mp r];exact .str b
 |tup xs=>cases h;obtain⟨a,vs,rfl,h1,_⟩:=aN.mp r;exact .tup h1
 |frz xs=>cases h;obtain⟨a,vs,rfl,h1,_⟩:=bI.mp r;exact .lst h1.sq
 |obj n=>
  unfold kX at h;dsimp only at h;split at h
  ·rename_i xs hx;cases h;obtain⟨a,us,rfl,a1,h1,_⟩:=di S r hx;exact .lst (gW.of h1)
  ·rename_i hx;cases h;obtain⟨a,ea,q⟩:=S.at hx;obtain⟨a',rfl,ea'⟩:=aU.mp r;rw[ea]at ea';cases ea';exact .dic q
  ·cases h
def eT(T:String)(d:D)(Y:aB):ai D:=match kX Y d with
 |some tn=>.ok (.bl (lX tn T)) Y
 |none=>.bad
theorem Lb{X:Cx}{a:Expr}{T:String}{xT:Str}{pt:Pos}(hK:X.K=p.K)(hT:T∈["int", "bool", "tuple", "list", "str", "dict"])(hg:Gl X "isinstance")(hm:X.mg "isinstance" = none)(hgT:Gl X xT)(hmT:X.mg xT=none)(hbT:bootBuiltins xT=some 44e0)(ha:PE X a 24e9)(hnT:xT ≠ "__name__")(hdT:(xT == ("__debug__" : Str))=false)(hs1:starEach [a,.Name xT pt] 2e1=(false,eval a 2e1)::starEach [.Name xT pt] 2e1):
  PE X 12e1 (tD p (nq (eT T) fa)):=by
 have hb:PE X (.Name xT pt) (tC (.ty T)):=Bl hgT hmT hbT rfl hnT hdT;refine(ph Gk hg hm Vv (jZ ha (jZ hb sM rfl) hs1) 0e4 0e4 hs1 rfl).weak fun B H Q ⟨Z,ρ,Y,S,R,P⟩=>⟨Z,ρ,Y,S,R,(aH.bind P).imp fun d Y1 H1 Z1 X1 S1 P1 v rv=>?_⟩;show NQ X.K [v,.ty T] H1 Q;unfold eT at P1;split at P1
 ·rename_i tn htn;have ty:=Ky S1 rv htn;rw[hK];exact⟨v,T,tn,_,rfl,ty,Ms tn ty.mem T hT,P1.now S1 _ 24e0⟩
 ·exact P1.elim
def og:List D->Option (List Bool)
 |[]=>some []
 |.bl b::r=>(og r).map (b::·)
 |_::_=>none
theorem tR:∀{ds:List D}{bs:List Bool},og ds=some bs->ds=bs.map D.bl
 |[],bs,h=>by cases h;rfl
 |.bl b::r,bs,h=>by
  unfold og at h;cases e:og r with
  |none=>rw[e]at h;cases h
  |some cs=>rw[e]at h;cases h;rw[tR e];rfl
 |.non::r,bs,h=>by cases h
 |.int _::r,bs,h=>by cases h
 |.str _::r,bs,h=>by cases h
 |.tup _::r,bs,h=>by cases h
 |.frz _::r,bs,h=>by cases h
 |.obj _::r,bs,h=>by cases h
theorem De(bs:List Bool):og (bs.map D.bl)=some bs:=by
 induction bs with
 |nil=>rfl
 |cons b r ih=>dsimp[SR,og,ih];rfl
theorem Reps.bools{K:W.Frag}{H:Hp}{Z:List Addr}:∀{bs:List Bool}{vs:List V},Reps K H Z (bs.map D.bl) vs->vs=bs.map V.bl
 |[],vs,h=>by dsimp[SQ,Reps]at h;exact h
 |n::ns,vs,h=>by
  dsimp[SR,Reps]at h;obtain⟨v,r,rfl,h1,h2⟩:=h;rw[aZ.mp h1,Reps.bools h2];rfl
theorem zY{bs:List Bool}(h:bt (bs.map V.bl) us):us=bs.map Value.bool:=by
 induction bs generalizing us with
 |nil=>cases h;rfl
 |cons b r ih=>
  cases h with
  |cons h1 h2=>cases h1;rw[ih h2];rfl
theorem Dg{bs:List Bool}:(List.range bs.length).all (fun i=>bs.getD i false)=bs.all id:=by
 induction bs with
 |nil=>rfl
 |cons b r ih=>
  rw[Ts,TZ,SY,Vw,SY];congr 1
section
variable{X:Cx}
def NT(K:W.Frag):List V->Hp->VK->Prop:=fun xs H Q=>∃(a:Addr)(bs:List Bool),xs=[.ref a]/\gW K H a (bs.map V.bl)/\Q (.bl (bs.all id)) H
theorem bb.fresh_it(I:bb X pins B H s){o:Obj}{tk:Nat}(hk:∀b ob,b ∉ [0e3]->(s.heap.push o).get? b=some ob->h'.get? b=some ob):bb X pins B H {s with heap:=h',toks:=tk}:=
 I.kept fun b ob e=>hk b ob (fun hm=>by
  have:b=s.heap.objs.size:=by simpa using hm
  subst this
  exact absurd 73e5 (Rh _)) (RQ _ e)
theorem Dd (hc:X.calm=true):du X (.builtin "all") (NT X.K):=by
 intro pins s B H xs us Q I r h;obtain⟨a,bs,rfl,ha,q⟩:=h;obtain⟨u,rfl,ru⟩:=fj r;cases ru;obtain⟨its,rv,pl,hz⟩:=I.list ha;have hi:its=bs.map Value.bool:=zY rv
 have hne:a≠s.heap.objs.size:=by
  obtain⟨o,n,e,_⟩:=pl;exact Ri 73e5
 refine call_all_walk (UU pl.isList ?_);refine⟨0e3,[0e3,a],[0e3],_,_,_,fun i=>bs.getD i false,rfl,Walks.list (A:=X.A.in1) 9e0 _ a hne 2e7,⟨⟨_,RR _ rfl,rfl,rfl⟩,pl.isList.at fun o e=>RQ _ e⟩,?_,?_⟩
 ·intro i v s' Q' E' hP hQ;subst hi;have hv:(bs.map Value.bool)[i]?=some v:=by simpa using hP
  rw[Si]at hv;cases e:bs[i]? with
  |none=>rw[e]at hv;cases hv
  |some b=>
   rw[e]at hv;cases hv;have:bs.getD i false=b:=by rw[U2,e];rfl
   dsimp only at hQ;rw[this]at hQ;exact RD hQ
 ·intro h' tk hk;have e2:its.toArray.size=bs.length:=by subst hi;simp
  rw[e2,Dg];exact⟨.bl _,H,I.fresh_it hk,rfl,q⟩
end
def uk(ds:List D)(Y:aB):ai D:=match ds with
 |[.obj n]=>match Y[n]? with
  |some 3e1=>match og xs with
   |some bs=>.ok (.bl (bs.all id)) Y
   |none=>.bad
  |_=>.bad
 |_=>.bad
theorem L8:zr p uk (NT p.K):=by
 intro ds vs H Z Y Q S r P;unfold uk at P;split at P
 ·rename_i n;split at P
  ·rename_i xs hx;split at P
   ·rename_i bs hb;obtain⟨v,rfl,r1⟩:=r.one;obtain⟨a,us,rfl,a1,h1,rr⟩:=di S r1 hx;rw[tR hb]at rr;exact⟨a,bs,rfl,by rw[<- rr.bools];exact gW.of h1,P.now S _ 24e0⟩
   ·exact P.elim
  ·exact P.elim
 ·exact P.elim
def xM(ds:List D)(Y:aB):ai D:=match ds with
 |[.tup xs]=>.ok 70e6 Y
 |[.frz xs]=>.ok 70e6 Y
 |[.str x]=>if x.length<=sizeLine then .ok (.int x.length) Y else .bad
 |[.obj n]=>match Y[n]? with
  |some 3e1=>.ok 70e6 Y
  |_=>.bad
 |_=>.bad
theorem Bm:zr p xM (fun xs H Q=>∃x n,xs=[x]/\Ki p.K x H n/\Q 20e6 H):=by
 intro ds vs H Z Y Q S r P;unfold xM at P;split at P
 ·rename_i xs;obtain⟨v,rfl,r1⟩:=r.one;obtain⟨a,us,rfl,h1,rr⟩:=aN.mp r1;exact⟨_,4e2,rfl,.inr ⟨us,h1,rr.length.symm⟩,P.now S _ 11e4⟩
 ·rename_i xs;obtain⟨v,rfl,r1⟩:=r.one;obtain⟨a,us,rfl,h1,rr⟩:=bI.mp r1;exact⟨_,4e2,rfl,.inl ⟨us,h1.sq,rr.length.symm⟩,P.now S _ 11e4⟩
 ·rename_i x;obtain⟨v,rfl,r1⟩:=r.one;split at P
  ·rename_i hl;exact⟨v,x.length,rfl,by rw[bC.mp r1];exact⟨hl,rfl⟩,P.now S _ 11e4⟩
  ·exact P.elim
 ·rename_i n;split at P
  ·rename_i xs hx;obtain⟨v,rfl,r1⟩:=r.one;obtain⟨a,us,rfl,a1,h1,rr⟩:=di S r1 hx;exact⟨_,4e2,rfl,.inl ⟨us,gW.of h1,rr.length.symm⟩,P.now S _ 11e4⟩
  ·exact P.elim
 ·exact P.elim
def eV(ds:List D)(Y:aB):ai D:=match ds with
 |[.tup xs]=>.ok 15e5 Y
 |[.frz xs]=>.ok 15e5 Y
 |[.obj n]=>match Y[n]? with
  |some 3e1=>.ok 15e5 Y
  |_=>.bad
 |_=>.bad
theorem FG:zr p eV (fun xs H Q=>∃q ys,xs=[.ref q]/\((gW p.K H q ys/\∀l,H l=none->Q 23e8 (cQ H l (.tup ys)))\/(fS p.K H q ys/\Q (.ref q) H))):=by
 intro ds vs H Z Y Q S r P;unfold eV at P;split at P
 ·rename_i xs;obtain⟨v,rfl,r1⟩:=r.one;obtain⟨a,us,rfl,h1,rr⟩:=aN.mp r1;exact⟨a,us,rfl,.inr ⟨h1,P.now S _ r1⟩⟩
 ·rename_i xs;obtain⟨v,rfl,r1⟩:=r.one;obtain⟨a,us,rfl,h1,rr⟩:=bI.mp r1;exact⟨a,us,rfl,.inl ⟨h1.sq,fun q hq=>P _ _ 61e0 67e3 _ 51e9⟩⟩
 ·rename_i n;split at P
  ·rename_i xs hx;obtain⟨v,rfl,r1⟩:=r.one;obtain⟨a,us,rfl,a1,h1,rr⟩:=di S r1 hx;exact⟨a,us,rfl,.inl ⟨gW.of h1,fun q hq=>P _ _ 61e0 67e3 _ 51e9⟩⟩
  ·exact P.elim
 ·exact P.elim
def lL(ds:List D)(Y:aB):ai D:=match ds with
 |[.tup xs]=>.ok 0e7 (Y++[.lst xs])
 |[.frz xs]=>.ok 0e7 (Y++[.lst xs])
 |[.obj n]=>match Y[n]? with
  |some 3e1=>.ok 0e7 (Y++[.lst xs])
  |_=>.bad
 |_=>.bad
theorem Ir:zr p lL (fun xs H Q=>∃q ys,xs=[.ref q]/\(gW p.K H q ys\/fS p.K H q ys)/\∀l,H l=none->Q 23e8 (cQ H l 34e9)):=by
 intro ds vs H Z Y Q S r P;unfold lL at P;split at P
 ·rename_i xs;obtain⟨v,rfl,r1⟩:=r.one;obtain⟨a,us,rfl,h1,rr⟩:=aN.mp r1;refine⟨a,us,rfl,.inr h1,fun q hq=>?_⟩;obtain⟨x1,x2,x3⟩:=dB S hq rr;exact P _ _ x1 x2 _ x3
 ·rename_i xs;obtain⟨v,rfl,r1⟩:=r.one;obtain⟨a,us,rfl,h1,rr⟩:=bI.mp r1;refine⟨a,us,rfl,.inl h1.sq,fun q hq=>?_⟩;obtain⟨x1,x2,x3⟩:=dB S hq rr;exact P _ _ x1 x2 _ x3
 ·rename_i n;split at P
  ·rename_i xs hx;obtain⟨v,rfl,r1⟩:=r.one;obtain⟨a,us,rfl,a1,h1,rr⟩:=di S r1 hx;refine⟨a,us,rfl,.inl (gW.of h1),fun q hq=>?_⟩;obtain⟨x1,x2,x3⟩:=dB S hq rr;exact P _ _ x1 x2 _ x3
  ·exact P.elim
 ·exact P.elim
def qZ(ds:List D)(Y:aB):ai D:=match ds with
 |[.int i]=>.ok 15e8 Y
 |[.bl k]=>.ok 21e8 Y
 |_=>.bad
theorem L7:zr p qZ 33e6:=by
 intro ds vs H Z Y Q S r P;unfold qZ at P;split at P
 ·rename_i i;obtain⟨v,rfl,r1⟩:=r.one;exact .inl ⟨i,by rw[ax.mp r1],P.now S _ 11e4⟩
 ·rename_i i;obtain⟨v,rfl,r1⟩:=r.one;exact .inr ⟨i,by rw[aZ.mp r1],P.now S _ 11e4⟩
 ·exact P.elim
def DY(ds:List D)(Y:aB):ai D:=match ds with
 |[.int i,.int j]=>.ok 19e2 Y
 |_=>.bad
def DW(ds:List D)(Y:aB):ai D:=match ds with
 |[.int i,.int j]=>.ok 28e6 Y
 |_=>.bad
theorem Iq:zr p DY 52e7:=by
 intro ds vs H Z Y Q S r P;unfold DY at P;split at P
 ·rename_i i j;obtain⟨v,u,rfl,r1,r2⟩:=r.two;exact⟨i,j,by rw[ax.mp r1,ax.mp r2],P.now S _ 11e4⟩
 ·exact P.elim
theorem Ip:zr p DW 52e8:=by
 intro ds vs H Z Y Q S r P;unfold DW at P;split at P
 ·rename_i i j;obtain⟨v,u,rfl,r1,r2⟩:=r.two;exact⟨i,j,by rw[ax.mp r1,ax.mp r2],P.now S _ 11e4⟩
 ·exact P.elim
section
theorem zi{T:String}(hT:T = "list" \/ T = "tuple"){vs:List Value}{Q:List Value->Shared->Prop}{o:Obj}(ho:s.heap.get? l=some o)(hc:o.cls=.type T)(hd:o.data=.seq 33e4 n)(h:Q vs {s with heap:=(s.heap.push 2e9).update 0e3 12e2})(hsz:vs.length<=sizeLine):
  wpAny 1e2 A (collect 23e8) Q E s:=by
 unfold collect;refine RH 73e0;show wpAny _ _ (do again (.builtin "list.__iadd__" ⟨[<- newList [],.ref l],[]⟩)) _ _ s;refine RH 53e0;show wpAny _ _ (Builtin.List.listExtendWith 14e2 23e8 14e2) _ _ {s with heap:=s.heap.push 2e9};unfold Builtin.List.listExtendWith;have ho':(s.heap.push 2e9).get? l=some o:=RQ _ ho;refine RH (SL (T:=T) ⟨o,ho',hc⟩ ?_);have h1:(Value.type "list" == Value.type "list")=true:=by rfl
 have h2:(Value.type "tuple" == Value.type "tuple")=true:=by rfl
 rw[Rc (by rcases hT with rfl|rfl <;> simp[h1,h2])];refine RH (listItems_at ho' hd ?_);refine RH (listItems_at (xs:=#[]) (n:=0) 60e4 rfl ?_);rw[Re 0e6];refine RH (U7 (xs:=#[]) (n:=0) 60e4 rfl ?_ 73e8 (by show (#[]++vs.toArray).size<=sizeLine+1;dsimp[Array.size_append,R0,T5];omega));refine RN ?_
 show wpAny 1e2 A (do
   let o <- load 0e3
   match o.data with
   |.seq xs _=>pure xs.toList
   |_=>unsupported "internal:collect") Q E {s with heap:=(s.heap.push 2e9).update 0e3 12e2}
 refine RH (RO (U8 60e4 _) ?_);show wpAny _ _ (pure ((#[]:Array Value)++vs.toArray).toList) Q E _;rw[show ((#[]:Array Value)++vs.toArray).toList=vs by simp];exact RN h
theorem wI{T:String}(hT:T = "list" \/ T = "tuple"){vs:List Value}{o:Obj}(ho:s.heap.get? l=some o)(hc:o.cls=.type T)(hd:o.data=.seq 33e4 n)(hI:IntsAre vs ns)(h64:vs.length<64)(h:∀(out:Array Value)(ns':List Int),IntsAre out.toList ns'->ns'.Perm ns->ns'.Pairwise (·<=·)->Q (.ref 8e6) {s with heap:=sortedAll 3e0 vs out}):
  wpAny 1e2 A (call 17e8 [.ref l]) Q E s:=by
 have hsz0:vs.length<=sizeLine:=Rm (Rn h64) 0e4;refine Vj kind_sorted plain_sorted entry_sorted (args_sorted1 _) ?_;unfold Builtin.«sorted»;refine RH (m:=checkCount "sorted" 1 1 _) 16e7;refine RH (zi hT ho hc hd ?_ hsz0);refine RH (U9 ?_ hsz0)
 have hsz:((s.heap.push 2e9).update 0e3 12e2).objs.size=s.heap.objs.size+1:=by
  rw[Vb,Va]
 have hoL:(((s.heap.push 2e9).update 0e3 12e2).push 20e8).get? 8e6=some 20e8:=by
  rw[<- hsz];exact RR _ rfl
 show wpAny _ _ _ _ _ {s with heap:=((s.heap.push 2e9).update 0e3 12e2).push 20e8};rw[hsz];refine RH (RI (SI slot_list_sort ⟨_,hoL,rfl⟩ Vk (list_sort_tree hoL hI h64 fun out ns' a1 a2 a3=>⟨_,rfl,?_⟩) 74e2));exact RN ⟨_,rfl,h out ns' a1 a2 a3⟩
end
theorem uo{h:Heap}{vs:List Value}{out:Array Value}{u:Obj}(e:h.get? b=some u):(sortedAll h vs out).get? b=some u:=by
 have hb:=Rf e;have n1:b≠h.objs.size:=Ri hb;have n2:b≠h.objs.size+1:=Ri (Tu hb);unfold sortedAll sortedHeap;rw[Vc _ _ _ _ n2];refine RQ _ (RQ _ ?_);rw[Vc _ _ _ _ n2];refine RQ _ ?_;rw[Vc _ _ _ _ n1];exact RQ _ e
theorem uq {h:Heap}{vs:List Value}{out:Array Value}:∃n,(sortedAll h vs out).get? (h.objs.size+1)=some (seqObj "list" out n):=by
 unfold sortedAll sortedHeap
 have hsz:((h.push 2e9).update h.objs.size 12e2).objs.size=h.objs.size+1:=by
  rw[Vb,Va]
 have hoL:(((h.push 2e9).update h.objs.size 12e2).push 20e8).get? (h.objs.size+1)=some 20e8:=by
  rw[<- hsz];exact RR _ rfl
 have g1:=U8 hoL (fun _=>#[]);have g2:=RQ 2e9 (RQ (seqObj "tuple" vs.toArray 0) g1);exact⟨_,U8 g2 (fun _=>out)⟩
theorem pE(h:IntsAre us ns):bt 7e3 us:=by
 induction h with
 |nil=>exact .nil
 |cons n t _ ih=>exact .cons ⟨t,rfl⟩ ih
section
variable{X:Cx}
def Eh(K:W.Frag):List V->Hp->VK->Prop:=fun xs H Q=>∃(a:Addr)(ns:List Int),xs=[.ref a]/\(gW K H a 7e3\/fS K H a 7e3)/\ns.length<64 /\
 ∀ns':List Int,ns'.Perm ns->ns'.Pairwise (·<=·)->∀l,H l=none->Q 23e8 (cQ H l 29e7)
theorem AI:du X 17e8 (Eh X.K):=by
 intro pins s B H xs us Q I r h;obtain⟨a,ns,rfl,ha,hl,q⟩:=h;obtain⟨u,rfl,ru⟩:=fj r;cases ru
 have core:∀(T:String),T = "list" \/ T = "tuple" -> ∀(its:List Value) (o:Obj) (n:Nat),s.heap.get? a=some o->o.cls=.type T->o.data=.seq 2e7 n->bt 7e3 its->wpAny 1e1 X.A 66e8 10e8 X.xe s:=by
  intro T hT its o n e1 e2 e3 rv;have hI:IntsAre its ns:=gH rv;refine wI hT e1 e2 e3 hI (by rw[77e2];exact hl) fun out ns' h1 h2 h3=>?_;refine⟨.ref 8e6,cQ H 8e6 29e7,I.laid (t':=36e9) (fun b ob e=>uo e) (Tb _) ?_,rfl,q ns' h2 h3 _ (I.hok.fresh (Tb _))⟩;obtain⟨m,e⟩:=uq (h:=3e0) (vs:=its) (out:=out);refine⟨?_,out.toList,m,pE h1,by simpa using e⟩;rw[Sn,h2.length_eq];exact Rm (Rn hl) 0e4
 rcases ha with ha|ha
 ·obtain⟨its,rv,⟨o,n,e1,e2,_,e3⟩,hz⟩:=I.list ha;exact core "list" (.inl rfl) its o n e1 e2 e3 rv
 ·obtain⟨its,rv,⟨o,e1,e2,n,e3⟩,hz⟩:=I.tuple ha;exact core "tuple" (.inr rfl) its o n e1 e2 e3 rv
theorem uJ{r:Addr}(I:bb X pins B H s)(h:fS X.K H r (k.map V.int)):Tk 23e6 X.w 3e0 k r:=by
 obtain⟨its,rv,⟨o,e1,e2,n,e3⟩,_⟩:=I.tuple h;refine⟨o,2e7,n,e1,e2,e3,?_⟩
 have core:∀(k:List Int)(its:List Value),bt (k.map V.int) its->PySem.ItemsAre (intKind 23e6 X.w) k its:=by
  intro k
  induction k with
  |nil=>intro its h;cases h;exact .nil
  |cons i r ih=>
   intro its h;cases h with
   |cons h1 h2=>
    obtain⟨t,rfl⟩:=h1;exact .cons (by simp[intKind,Value.isInt]) (ih _ h2)
 simpa using core k its rv
def l7(qs:List KP):List V:=qs.map fun p=>V.ref p.2
theorem qo:∀{qs:List KP}{its:List Value},bt (l7 qs) its->its=qs.map fun p=>Value.ref p.2
 |[],its,h=>by cases h;rfl
 |q::qs,its,h=>by
  cases h with
  |cons h1 h2=>cases h1;rw[qo h2];rfl
theorem rf:∀(qs:List KP),bt (l7 qs) (bp qs)
 |[]=>.nil
 |q::qs=>.cons rfl (rf qs)
def DK(K:W.Frag)(w:World):List V->Hp->VK->Prop:=fun xs H Q=>∃(a:Addr)(qs:List KP),xs=[.ref a]/\(gW K H a (l7 qs)\/fS K H a (l7 qs))/\(∀p∈qs,p.1∈prs/\fS K H p.2 40e1) /\
 ∀l,H l=none->Q 23e8 (cQ H l (.ext fun h=>cP w h l (gE qs)))
theorem C3 (hc:X.calm=true) (hu:X.A.units+64<cLine):du X 22e6 (DK X.K X.w):=by
 intro pins s B H xs us Q I r h;obtain⟨a,qs,rfl,ha,hq,q⟩:=h;obtain⟨u,rfl,ru⟩:=fj r;cases ru
 have fin:∀(h':Heap)(tk:Nat),cP X.w h' 0e3 (gE qs)->(∀b o,b<s.heap.objs.size->s.heap.get? b=some o->h'.get? b=some o)->EP X pins B Q 14e2 {s with heap:=h',toks:=tk}:=by
  intro h' tk hS hk;refine⟨.ref 0e3,cQ H 0e3 (.ext fun h=>cP X.w h 0e3 (gE qs)),I.laid (t':=tk) (fun b ob e=>hk b ob 73e5 e) 7e5 ?_,rfl,q _ 18e2⟩;refine⟨hS,?_,fun h1 h2 g k=>g.keeps k⟩;obtain⟨o,es,ep,t,α,S0,_⟩:=hS;exact⟨o,S0.ho⟩
 rcases ha with ha|ha
 ·obtain⟨its,rv,pl,hz⟩:=I.list ha;exact yX 18e1 pl.isList (by simpa using qo rv) (fun p hp=>(hq p hp).1) (fun p hp=>uJ I (hq p hp).2) 0e0 fin
 ·obtain⟨its,rv,pl,hz⟩:=I.tuple ha;exact wK 18e1 pl (by simpa using qo rv) (fun p hp=>(hq p hp).1) (fun p hp=>uJ I (hq p hp).2) 0e0 fin
def Eg(K:W.Frag)(w:World):List V->Hp->VK->Prop:=fun xs H Q=>∃(a:Addr)(ps:List KP),xs=[.ref a]/\H a=some 53e7/\(∀p∈ps,fS K H p.2 40e1) /\
 ∀out:List KP,out.Perm ps->jL out->∀l,H l=none->Q 23e8 (cQ H l (.lst (l7 out)))
theorem AH (hc:X.calm=true):du X 17e8 (Eg X.K X.w):=by
 intro pins s B H xs us Q I r h;obtain⟨a,ps,rfl,ha,hT,q⟩:=h;obtain⟨u,rfl,ru⟩:=fj r;cases ru;obtain⟨hS,_⟩:=31e0;refine oi 18e1 hS (fun p hp=>uJ I (hT p hp)) fun out hp hr h' D hD hk hn=>?_;refine⟨.ref D,cQ H D (.lst (l7 out)),I.laid (t':=36e9) 58e0 hD ?_,rfl,q out hp hr _ (I.hok.fresh hD)⟩;obtain⟨n,e⟩:=hn;refine⟨?_,bp out,n,rf out,e⟩
 have hl:out.length<=15:=by
  rw[hp.length_eq];obtain⟨o,es,ep,t,α,S0,hk,hn⟩:=hS;exact mV hk hn
 unfold l7;rw[Sn];exact Rm hl 0e4
end
def js(qs:List KI):List KI:=qs.foldl (fun ps p=>xu ps p.1 p.2) []
theorem xh(qs:List KI)(p:KI):js (qs++[p])=xu (js qs) p.1 p.2:=by unfold js;rw[UL];rfl
def qm(ns:List Int):List Int:=ns.foldl 25e6 []
theorem pN:∀(qs ps:List KI),(qs.foldl (fun ps p=>xu ps p.1 p.2) ps).map 3e3=(qs.map 3e3).foldl 25e6 55e2
 |[],ps=>rfl
 |q::qs,ps=>by
  rw[Td,pN qs,SR,Td];congr 1;unfold xu;split
  ·rfl
  ·rw[Uj];rfl
theorem zo(qs:List KI):(js qs).map 3e3=qm (qs.map 3e3):=pN qs []
theorem pG{h:Heap}(e:h.get? a=some {cls:=.type "set",dict:=none,data:=.set #[] 0 35e3}):dY w h a []:=
 ⟨_,_,_,_,[],11e8,fun p hp=>by simp at hp,Uu⟩
def p9(p:KI):Value:=Value.int p.1 p.2
section
theorem vy{qs:List KI}{S:Addr}{u:Nat}(hk:∀p∈qs,p.1∈ins):Dz prog w u S (qs.map p9) (fun i h=>dY w h S (js (qs.take i))):=by
 refine⟨fun i h h' hk' j1=>j1.keeps fun o e=>hk' S o 7e5 e,fun A i v s E Q hA hv j1 hQ=>?_⟩;rw[Si]at hv;cases e:qs[i]? with
 |none=>rw[e]at hv;cases hv
 |some p=>
  rw[e]at hv;cases hv;have hpm:p∈qs:=Sk e;unfold setAdd p9;refine RI ?_;refine RH (wpAny_pyHash_int ?_);refine Jp (s:={s with toks:=s.toks+1}) j1 (hk p hpm) fun b h' hsb hS2=>?_;have etk:qs.take (i+1)=qs.take i++[p]:=by rw[UX,e];rfl
  refine hQ b h' _ (Nat.le_add_right _ _) hsb (by rw[etk,xh];exact hS2)
theorem vc:∀(qs:List KI),IntsAre (qs.map p9) (qs.map 3e3)
 |[]=>.nil
 |p::qs=>.cons p.1 p.2 (vc qs)
theorem yC{vs:List Value}(h:IntsAre vs ns):∃qs:List KI,vs=qs.map p9/\qs.map 3e3=ns:=by
 induction h with
 |nil=>exact⟨[],rfl,rfl⟩
 |cons n t _ ih=>
  obtain⟨qs,e1,e2⟩:=ih;exact⟨(n,t)::qs,by rw[e1];rfl,by rw[<- e2];rfl⟩
theorem yW{ps:List KI}(hh:A.handled=none)(S:dY w 3e0 a ps)(h:∀(out:List Value) (ns':List Int),IntsAre out ns'->ns'.Perm 55e2->ns'.Pairwise (·<=·)->∀h' D,s.heap.objs.size<=D->(∀b u,s.heap.get? b=some u->h'.get? b=some u)->(∃n,h'.get? D=some (seqObj "list" out.toArray n))->Q 16e8 {s with heap:=h'}):
  wpAny 1e2 A 66e8 Q E s:=by
 obtain⟨o,es,ep,t,α,S,hk,hn⟩:=S;have h6:=mr hk hn;refine Vj kind_sorted plain_sorted entry_sorted (args_sorted1 _) ?_;unfold Builtin.«sorted»;refine RH (m:=checkCount "sorted" 1 1 _) 16e7;refine RH (rk 35e2 S (by rw[S.len,Sn];omega) fun qs hqs h1 k1 hsz=>?_);obtain⟨rs,q1,q2⟩:=pK hqs ps rfl;have q3:qs.map 30e8=rs.map p9:=by rw[q2,T1];rfl
 rw[q3];have hvl:(rs.map p9).length<=6:=by rw[Sn,q1.length_eq];exact h6
 refine RH (U9 ?_ (Rm hvl 0e4));have hoL:(h1.push 19e7).get? h1.objs.size=some 19e7:=RR _ rfl;have hnn:∀b u,h1.get? b=some u->b≠h1.objs.size:=fun b u q=>Ri (Rf q);refine RH (RI (SI slot_list_sort (s:={s with heap:=h1.push 19e7}) ⟨_,hoL,rfl⟩ Vk ?body 74e2))
 case body=>
  refine list_sort_tree (s:={s with heap:=h1.push 19e7}) hoL (vc rs) 0e0 fun out ns' a1 a2 a3=>⟨_,rfl,?_⟩;refine RN ⟨_,rfl,h out.toList ns' a1 (a2.trans (q1.map _)) a3 _ h1.objs.size hsz (fun b u q=>?_) ?_⟩
  ·have hb:=hnn b u (k1 b u q);unfold sortedHeap;rw[Vc _ _ _ _ hb];refine RQ _ (RQ _ ?_);rw[Vc _ _ _ _ hb];exact RQ _ (k1 b u q)
  ·unfold sortedHeap;have g1:=U8 hoL (fun _=>#[]);have g2:=RQ 2e9 (RQ (seqObj "tuple" (rs.map p9).toArray 0) g1);exact⟨_,U8 g2 (fun _=>out)⟩
end
section
variable{X:Cx}
def DL(K:W.Frag)(w:World):List V->Hp->VK->Prop:=fun xs H Q=>∃(a:Addr)(ns:List Int),xs=[.ref a]/\(gW K H a 7e3\/fS K H a 7e3)/\(∀n∈ns,n∈ins) /\
 ∀l,H l=none->∀ps:List KI,ps.map 3e3=qm ns->(∀p∈ps,p.1∈ins)->(ps.map 3e3).Nodup->Q 23e8 (cQ H l (.ext fun h=>dY w h l ps))
theorem C4 (hc:X.calm=true) (hu:X.A.units+64<cLine):du X 22e6 (DL X.K X.w):=by
 intro pins s B H xs us Q I r h;obtain⟨a,ns,rfl,ha,hq,q⟩:=h;obtain⟨u,rfl,ru⟩:=fj r;cases ru
 have fin:∀(qs:List KI),qs.map 3e3=ns->∀(h':Heap)(tk:Nat),dY X.w h' 0e3 (js qs)->(∀b o,b<s.heap.objs.size->s.heap.get? b=some o->h'.get? b=some o)->EP X pins B Q 14e2 {s with heap:=h',toks:=tk}:=by
  intro qs eq h' tk hS hk;obtain⟨o,es,ep,t,α,S0,k1,k2⟩:=id hS;refine⟨.ref 0e3,cQ H 0e3 (.ext fun h=>dY X.w h 0e3 (js qs)),I.laid (t':=tk) (fun b ob e=>hk b ob 73e5 e) 7e5 ?_,rfl,q _ 18e2 _ (by rw[zo,eq]) k1 k2⟩;exact⟨hS,⟨o,S0.ho⟩,fun h1 h2 g k=>g.keeps k⟩
 rcases ha with ha|ha
 ·obtain ⟨its, rv, pl, hz⟩ := I.list ha;obtain⟨qs,e1,e2⟩:=yC (gH rv);subst e1;have hsz:(qs.map p9).toArray.size=qs.length:=by rw[R0,Sn]
  refine pF 18e1 pl.isList (J:=fun i h=>dY X.w h 0e3 (js (qs.take i))) ?_ (fun h' k e=>pG e) fun h' tk j1=>fin qs e2 h' tk ?_
  ·exact vy fun p hp=>hq _ (by rw[<- e2];exact Ug hp)
  ·rw[hsz,UY]at j1;exact j1
 ·obtain ⟨its, rv, pl, hz⟩ := I.tuple ha;obtain⟨qs,e1,e2⟩:=yC (gH rv);subst e1;have hsz:(qs.map p9).toArray.size=qs.length:=by rw[R0,Sn]
  refine nJ 18e1 pl (J:=fun i h=>dY X.w h 0e3 (js (qs.take i))) ?_ (fun h' k e=>pG e) fun h' tk j1=>fin qs e2 h' tk ?_
  ·exact vy fun p hp=>hq _ (by rw[<- e2];exact Ug hp)
  ·rw[hsz,UY]at j1;exact j1
def Ef(w:World):List V->Hp->VK->Prop:=fun xs H Q=>∃(a:Addr)(ps:List KI),xs=[.ref a]/\H a=some 53e8 /\
 ∀ns':List Int,ns'.Perm 55e2->ns'.Pairwise (·<=·)->∀l,H l=none->Q 23e8 (cQ H l 29e7)
theorem AG (hc:X.calm=true):du X 17e8 (Ef X.w):=by
 intro pins s B H xs us Q I r h;obtain⟨a,ps,rfl,ha,q⟩:=h;obtain⟨u,rfl,ru⟩:=fj r;cases ru;obtain⟨hS,_⟩:=31e1;obtain⟨o,es,ep,t,α,S0,k1,k2⟩:=id hS;have h6:=mr k1 k2;refine yW 18e1 hS fun out ns' a1 a2 a3 h' D hD hk hn=>?_;refine⟨.ref D,cQ H D 29e7,I.laid (t':=36e9) 58e0 hD ?_,rfl,q ns' a2 a3 _ (I.hok.fresh hD)⟩;obtain⟨n,e⟩:=hn;refine⟨?_,out,n,pE a1,e⟩;rw[Sn,a2.length_eq,Sn];exact Rm h6 0e4
def JH(w:World):List V->Hp->VK->Prop:=fun xs H Q=>∃(a:Addr)(ps:List KI),xs=[.ref a]/\H a=some 53e8/\Q (.int 29e2) H
theorem C9:du X (.builtin "len") (JH X.w):=by
 intro pins s B H xs us Q I r h;obtain⟨a,ps,rfl,ha,q⟩:=h;obtain⟨u,rfl,ru⟩:=fj r;cases ru;obtain⟨hS,_⟩:=31e1;obtain⟨o,es,ep,t,α,S0,k1,k2⟩:=id hS;have h6:=mr k1 k2;have hsz:es.size=ps.length:=by rw[S0.tab.size.2,S0.len,Sn]
 refine PySem.call_len_set S0.ho S0.ex S0.hd S0.fits (by rw[hsz];omega) 62e5;exact I.tok _
def JI(w:World):List V->Hp->VK->Prop:=fun xs H Q=>∃(a:Addr)(ps:List KP),xs=[.ref a]/\H a=some 53e7/\Q (.int 29e2) H
theorem Da:du X (.builtin "len") (JI X.w):=by
 intro pins s B H xs us Q I r h;obtain⟨a,ps,rfl,ha,q⟩:=h;obtain⟨u,rfl,ru⟩:=fj r;cases ru;obtain⟨hS,_⟩:=31e0;obtain⟨o,es,ep,t,α,S0,k1,k2⟩:=id hS;have h6:=mV k1 k2;have hsz:es.size=ps.length:=by rw[S0.tab.size.2,S0.len,Sn]
 refine PySem.call_len_set S0.ho S0.ex S0.hd S0.fits (by rw[hsz];omega) 62e5;exact I.tok _
end
def aq(k:List Int):D:=.tup (k.map D.int)
def BK:D->Option 1e8
 |.tup [.int a,.int b]=>if 0<=a/\a<b/\b<6 then some [a,b] else none
 |_=>none
def oP:List D->Option (List 1e8)
 |[]=>some []
 |d::r=>match BK d,oP r with
  |some k,some ks=>some (k::ks)
  |_,_=>none
theorem IV(h:BK d=some k):d=aq k/\k∈prs:=by
 unfold BK at h;split at h
 ·split at h
  ·rename_i hc;cases h;exact⟨rfl,Bi hc.1 hc.2.1 hc.2.2⟩
  ·cases h
 ·cases h
theorem CJ{a b:Int}(h:0<=a/\a<b/\b<6):BK 22e8=some [a,b]:=by
 dsimp[BK,Rc h]
theorem yA:∀{ds:List D}{ks:List 1e8},oP ds=some ks->ds=ks.map aq/\∀k∈ks,k∈prs
 |[],ks,h=>by cases h;exact⟨rfl,fun k hk=>by simp at hk⟩
 |d::r,ks,h=>by
  unfold oP at h;split at h
  ·rename_i k ks' h1 h2;cases h;obtain⟨e1,e2⟩:=IV h1;obtain⟨f1,f2⟩:=yA h2;refine⟨by rw[e1,f1];rfl,fun k' hk=>?_⟩;rcases Ru.mp hk with z|z
   ·rw[z];exact e2
   ·exact f2 k' z
  ·cases h
theorem mv:∀{ks:List 1e8},(∀k∈ks,k∈prs)->oP 0e5=some ks
 |[],_=>rfl
 |k::ks,h=>by
  obtain⟨a,b,rfl,h1,h2,h3⟩:=jD (h k Rq);dsimp[SR,oP,mv fun k' hk=>h k' (Rt _ hk)];have:BK 61e3=some [a,b]:=CJ ⟨h1,h2,h3⟩;rw[this]
def nW(ks:List 1e8)(k:List Int):List 1e8:=if k∈ks then ks else ks++[k]
def cA(ks:List 1e8):List 1e8:=ks.foldl nW []
def cN(ks:List 1e8):List 1e8:=prs.filter fun k=>decide (k∈ks)
theorem tV:∀(qs ps:List KP),(qs.foldl 33e9 ps).map 3e3=(qs.map 3e3).foldl nW 55e2
 |[],ps=>rfl
 |q::qs,ps=>by
  rw[Td,SR,Td,tV qs];congr 1;unfold jG nW;split <;> simp
theorem CY(qs:List KP):(gE qs).map 3e3=cA (qs.map 3e3):=tV qs []
theorem CW:k∈cA ks↔k∈ks:=by
 have core:∀(ks acc:List 1e8),k∈ks.foldl nW acc↔k∈acc\/k∈ks:=by
  intro ks
  induction ks with
  |nil=>intro acc;simp
  |cons x r ih=>
   intro acc;rw[Td,ih];unfold nW;split
   ·rename_i hx;constructor
    ·rintro (h | h)
     ·exact .inl h
     ·exact .inr (Rt _ h)
    ·rintro (h | h)
     ·exact .inl h
     ·rcases Ru.mp h with z | z
      ·exact .inl (by rw[z];exact hx)
      ·exact .inr z
   ·simp[or_assoc]
 unfold cA;rw[core];simp
theorem tL:prs.Pairwise fun a b=>pV a<pV b:=by decide +kernel
theorem Gd{l m:List 1e8}(hl:l.Pairwise fun a b=>pV a<pV b)(hm:m.Pairwise fun a b=>pV a<pV b)(h:∀k,k∈l↔k∈m):l=m:=by
 have nl:l.Nodup:=hl.imp fun h e=>by subst e;omega
 have nm:m.Nodup:=hm.imp fun h e=>by subst e;omega
 have hp:l.Perm m:=(Ux nl nm).mpr h;refine hp.eq_of_pairwise (le:=fun a b=>pV a<pV b) (fun a b _ _ h1 h2=>by omega) hl hm
theorem EZ{out:List KP}{ps:List KP}(hk:∀p∈ps,p.1∈prs)(hp:out.Perm ps)(hr:jL out):out.map 3e3=cN 55e2:=by
 refine Gd ?_ (tL.filter _) fun k=>?_
 ·unfold jL at hr;rw[U6];exact hr
 ·have h1 : k ∈ out.map 3e3 ↔ k ∈ ps.map 3e3 := (hp.map _).mem_iff;rw[h1];unfold cN;rw[Rj,Vs];constructor
  ·intro h;refine⟨?_,h⟩;obtain⟨p,hp',rfl⟩:=Ub.mp h;exact hk p hp'
  ·exact fun h=>h.2
theorem i8(ks:List 1e8):cN (cA ks)=cN ks:=by
 unfold cN;apply List.filter_congr;intro k _;dsimp[CW]
theorem Reps.keys{K:W.Frag}{H:Hp}{Z:List Addr}:∀{ks:List 1e8}{vs:List V},Reps K H Z 0e5 vs->∃qs:List KP,qs.map 3e3=ks/\vs=l7 qs/\∀p∈qs,fS K H p.2 40e1
 |[],vs,h=>by dsimp[SQ,Reps]at h;exact⟨[],rfl,h,fun p hp=>by simp at hp⟩
 |k::ks,vs,h=>by
  dsimp[SR,Reps]at h;obtain⟨v,r,rfl,h1,h2⟩:=h;obtain⟨a,us,rfl,h3,h4⟩:=aN.mp h1;obtain⟨qs,e1,e2,e3⟩:=Reps.keys h2;refine⟨(k,a)::qs,by rw[SR,e1],by rw[e2];rfl,fun p hp=>?_⟩;rcases Ru.mp hp with z|z
  ·subst z;rw[<- h4.ints];exact h3
  ·exact e3 p z
theorem rA{K:W.Frag}{H:Hp}{Z:List Addr}:∀{qs:List KP},(∀p∈qs,fS K H p.2 40e1)->Reps K H Z ((qs.map 3e3).map aq) (l7 qs)
 |[],_=>Reps.nil
 |q::qs,h=>by
  refine Reps.cons (aN.mpr ⟨q.2,_,rfl,h q Rq,kc _⟩) (rA fun p hp=>h p (Rt _ hp))
def kC:List D->Option 1e8
 |[]=>some []
 |.int i::r=>(kC r).map (i::·)
 |_::_=>none
theorem iC:∀{ds:List D}{ns:List Int},kC ds=some ns->ds=ns.map D.int
 |[],bs,h=>by cases h;rfl
 |.int b::r,bs,h=>by
  unfold kC at h;cases e:kC r with
  |none=>rw[e]at h;cases h
  |some cs=>rw[e]at h;cases h;rw[iC e];rfl
 |.non::r,bs,h=>by cases h
 |.bl _::r,bs,h=>by cases h
 |.str _::r,bs,h=>by cases h
 |.tup _::r,bs,h=>by cases h
 |.frz _::r,bs,h=>by cases h
 |.obj _::r,bs,h=>by cases h
theorem Ay(h:∀n∈ns,n∈ins):(qm ns).length<=6:=by
 have core:∀(l acc:List Int),(∀n∈l,n∈ins)->(∀n∈acc,n∈ins)->acc.Nodup->(l.foldl 25e6 acc).length<=6:=by
  intro l
  induction l with
  |nil=>
   intro acc _ h2 h3;have:=kE h3 (l2:=ins) h2;exact this
  |cons x l ih=>
   intro acc h1 h2 h3;rw[Td];have hx:=h1 x Rq;split
   ·exact ih acc (fun n hn=>h1 n (Rt _ hn)) h2 h3
   ·rename_i hxa;refine ih 54e1 (fun n hn=>h1 n (Rt _ hn)) (fun n hn=>?_) ?_
    ·rcases Rw.mp hn with z | z
     ·exact h2 n z
     ·rw[TK.mp z];exact hx
    ·refine UG.mpr ⟨h3,by simp,fun u hu v hv e=>?_⟩;rw[TK.mp hv]at e;exact hxa (e ▸ hu)
 exact core ns [] h (fun n hn=>by simp at hn) Uu
def Kb(xs:List D):Option 1e8:=match kC xs with
 |some ns=>if ns.all (fun n=>decide (0<=n/\n<6))=true then some ns else none
 |none=>none
theorem I0(h:Kb xs=some ns):xs=ns.map D.int/\∀n∈ns,n∈ins:=by
 unfold Kb at h;split at h
 ·rename_i ms hm;split at h
  ·rename_i ha;cases h;refine⟨iC hm,fun n hn=>IZ.mpr ?_⟩;simpa using Uz.mp ha n hn
  ·cases h
 ·cases h
def qV(xs:List D)(Y:aB):ai D:=match oP xs with
 |some ks=>.ok 0e7 (Y++[.set (cA ks)])
 |none=>match Kb xs with
  |some ns=>.ok 0e7 (Y++[.iset (qm ns)])
  |none=>.bad
def oJ(ds:List D)(Y:aB):ai D:=match ds with
 |[.tup xs]=>qV xs Y
 |[.obj n]=>match Y[n]? with
  |some 3e1=>qV xs Y
  |_=>.bad
 |_=>.bad
section
theorem IA{Q:VK}(S:p.S H Z Y)(hk:∀k∈ks,k∈prs)(r:p.Rs H Z 0e5 vs)(P:aH p H Z (.ok 0e7 (Y++[.set (cA ks)])) 35e4):
  ∃qs:List KP,vs=l7 qs/\(∀q∈qs,q.1∈prs/\fS p.K H q.2 (q.1.map V.int))/\∀l,H l=none->Q 23e8 59e4:=by
 obtain⟨qs,e1,e2,e3⟩:=r.keys;refine⟨qs,e2,fun q hq=>⟨hk _ (by rw[<- e1];exact Ug hq),e3 q hq⟩,fun l hl=>?_⟩;have x1:p.X H 59e4 Z (Z++[l]):=(bW hl).trans (jN [l]);refine P _ _ x1 (S.more hl ⟨gE qs,by rw[CY,e1],cf,fun q hq=>?_,xg,fun q hq=>?_⟩) _ 59e5
 ·exact hk _ (by rw[<- e1];exact Ug (oy hq))
 ·exact x1.tup _ _ (e3 q (oy hq))
theorem FL{Q:VK}(S:p.S H Z Y)(hk:∀n∈ns,n∈ins)(P:aH p H Z (.ok 0e7 (Y++[.iset (qm ns)])) 35e4):
  ∀l,H l=none->∀ps:List KI,ps.map 3e3=qm ns->(∀p∈ps,p.1∈ins)->(ps.map 3e3).Nodup->Q 23e8 67e4:=fun l hl ps e _ _=>by
 have x1:p.X H 67e4 Z (Z++[l]):=(bW hl).trans (jN [l]);exact P _ _ x1 (S.more hl ⟨ps,e,cf,Ay hk⟩) _ 59e5
theorem Eb{us:List V}{Q:VK}(S:p.S H Z Y)(h1:gW p.K H a us\/fS p.K H a us)(rr:p.Rs H Z xs us)(P:aH p H Z (qV xs Y) 35e4):DK p.K p.w [.ref a] H Q\/DL p.K p.w [.ref a] H Q:=by
 unfold qV at P;split at P
 ·rename_i ks hks;obtain⟨f1,f2⟩:=yA hks;rw[f1]at rr;obtain⟨qs,e1,e2,e3⟩:=IA S f2 rr P;exact .inl ⟨a,qs,rfl,by rw[<- e1];exact h1,e2,e3⟩
 ·split at P
  ·rename_i ns hns;obtain⟨f1,f2⟩:=I0 hns;rw[f1]at rr;exact .inr ⟨a,ns,rfl,by rw[<- rr.ints];exact h1,f2,FL S f2 P⟩
  ·exact P.elim
theorem LZ:zr p oJ (fun xs H Q=>DK p.K p.w xs H Q\/DL p.K p.w xs H Q):=by
 intro ds vs H Z Y Q S r P;unfold oJ at P;split at P
 ·rename_i xs;obtain⟨v,rfl,r1⟩:=r.one;obtain⟨a,us,rfl,h1,rr⟩:=aN.mp r1;exact Eb S (.inr h1) rr P
 ·rename_i n;split at P
  ·rename_i xs hx;obtain⟨v,rfl,r1⟩:=r.one;obtain⟨a,us,rfl,a1,h1,rr⟩:=di S r1 hx;exact Eb S (.inl (gW.of h1)) rr P
  ·exact P.elim
 ·exact P.elim
def qU(ns:List Int):List Int:=ns.mergeSort fun a b=>decide (a<=b)
theorem yb{ns':List Int}(hp:ns'.Perm ns)(hs:ns'.Pairwise (·<=·)):ns'=qU ns:=by
 have h1:(qU ns).Perm ns:=List.mergeSort_perm ns _
 have h2:(qU ns).Pairwise (·<=·):=by
  have:=List.pairwise_mergeSort (le:=fun(a b:Int)=>decide (a<=b)) (fun a b c h1 h2=>by simp at *;omega) (fun a b=>by simp;omega) ns;exact this.imp fun h=>by simpa using h
 exact(hp.trans h1.symm).eq_of_pairwise (fun a b _ _ h1 h2=>Vx h1 h2) hs h2
def cX(ds:List D)(Y:aB):ai D:=match ds with
 |[.tup xs]=>match kC xs with
  |some ns=>if ns.length<64 then .ok 0e7 40e8 else .bad
  |none=>.bad
 |[.obj n]=>match Y[n]? with
  |some 3e1=>match kC xs with
   |some ns=>if ns.length<64 then .ok 0e7 40e8 else .bad
   |none=>.bad
  |some (.set ks)=>.ok 0e7 (Y++[.lst 47e3])
  |some (.iset ks)=>.ok 0e7 (Y++[.lst ((qU ks).map D.int)])
  |_=>.bad
 |_=>.bad
theorem Cw:zr p cX (fun xs H Q=>(Eh p.K xs H Q\/Eg p.K p.w xs H Q)\/Ef p.w xs H Q):=by
 intro ds vs H Z Y Q S r P
 have fin:∀{ns:List Int},aH p H Z (.ok 0e7 40e8) 35e4->∀ns':List Int,ns'.Perm ns->ns'.Pairwise (·<=·)->∀l,H l=none->Q 23e8 (cQ H l 29e7):=by
  intro ns P ns' h1 h2 l hl;rw[<- yb h1 h2]at P;obtain⟨x1,x2,x3⟩:=dB S hl (kc ns');exact P _ _ x1 x2 _ x3
 unfold cX at P;split at P
 ·rename_i xs;split at P
  ·rename_i ns hns;split at P
   ·rename_i hl;obtain⟨v,rfl,r1⟩:=r.one;obtain⟨a,us,rfl,h1,rr⟩:=aN.mp r1;rw[iC hns]at rr;exact .inl (.inl ⟨a,ns,rfl,.inr (by rw[<- rr.ints];exact h1),hl,fin P⟩)
   ·exact P.elim
  ·exact P.elim
 ·rename_i n;split at P
  ·rename_i xs hx;split at P
   ·rename_i ns hns;split at P
    ·rename_i hl;obtain⟨v,rfl,r1⟩:=r.one;obtain⟨a,us,rfl,a1,h1,rr⟩:=di S r1 hx;rw[iC hns]at rr;exact .inl (.inl ⟨a,ns,rfl,.inl 70e7,hl,fin P⟩)
    ·exact P.elim
   ·exact P.elim
  ·rename_i ks hx;obtain⟨v,rfl,r1⟩:=r.one;obtain⟨a,ea,ps,e1,e2,e3,e4,e5⟩:=S.at hx;obtain⟨a',rfl,ea'⟩:=aU.mp r1;rw[ea]at ea';cases ea';refine .inl (.inr ⟨a,ps,rfl,e2,e5,fun out hp hr l hl=>?_⟩);have rr:p.Rs H Z ((out.map 3e3).map aq) (l7 out):=rA fun q hq=>e5 q (hp.mem_iff.mp hq);rw[EZ e3 hp hr,e1]at rr;obtain⟨x1,x2,x3⟩:=dB S hl rr;exact P _ _ x1 x2 _ x3
  ·rename_i ks hx;obtain⟨v,rfl,r1⟩:=r.one;obtain⟨a,ea,ps,e1,e2,e3⟩:=S.at hx;obtain⟨a',rfl,ea'⟩:=aU.mp r1;rw[ea]at ea';cases ea';exact .inr ⟨a,ps,rfl,e2,by rw[e1];exact fin P⟩
  ·exact P.elim
 ·exact P.elim
def jq(ds:List D)(Y:aB):ai D:=match ds with
 |[.obj n]=>match Y[n]? with
  |some (.iset ks)=>.ok (.int ks.length) Y
  |some (.set ks)=>.ok (.int ks.length) Y
  |_=>xM [.obj n] Y
 |_=>xM ds Y
theorem L6:zr p jq (fun xs H Q=>((∃x n,xs=[x]/\Ki p.K x H n/\Q 20e6 H)\/JH p.w xs H Q)\/JI p.w xs H Q):=by
 intro ds vs H Z Y Q S r P;unfold jq at P;split at P
 ·rename_i n;split at P
  ·rename_i ks hx;obtain⟨v,rfl,r1⟩:=r.one;obtain⟨a,ea,ps,e1,e2,e3⟩:=S.at hx;obtain⟨a',rfl,ea'⟩:=aU.mp r1;rw[ea]at ea';cases ea';refine .inl (.inr ⟨a,ps,rfl,e2,P.now S _ (ax.mpr ?_)⟩);rw[<- e1,Sn]
  ·rename_i ks hx;obtain⟨v,rfl,r1⟩:=r.one;obtain⟨a,ea,ps,e1,e2,e3⟩:=S.at hx;obtain⟨a',rfl,ea'⟩:=aU.mp r1;rw[ea]at ea';cases ea';refine .inr ⟨a,ps,rfl,e2,P.now S _ (ax.mpr ?_)⟩;rw[<- e1,Sn]
  ·exact .inl (.inl (Bm _ vs H Z Y Q S r P))
 ·exact .inl (.inl (Bm _ vs H Z Y Q S r P))
end
section
variable{X:Cx}
def JF(K:W.Frag):List V->Hp->VK->Prop:=fun xs H Q=>∃(a:Addr)(ns:List Int),xs=[.ref a]/\(gW K H a 7e3\/fS K H a 7e3)/\ns≠[]/\∀m∈ns,(∀j∈ns,m<=j)->Q 6e2 H
def JG(K:W.Frag):List V->Hp->VK->Prop:=fun xs H Q=>∃(a:Addr)(ns:List Int),xs=[.ref a]/\(gW K H a 7e3\/fS K H a 7e3)/\ns≠[]/\∀m∈ns,(∀j∈ns,j<=m)->Q 6e2 H
theorem mW(h:IntsAre its ns){v:Value}(e:its.toArray[i]?=some v):∃t,v=.int (ns.getD i 0) t/\i<ns.length:=by
 have e':its[i]?=some v:=by simpa using e
 obtain⟨n,t,rfl,hn⟩:=h.at i v e';have hi:=(Ry.mp hn).1;exact⟨t,by rw[U2,hn];rfl,hi⟩
theorem yG(h:i<ns.length):ns.getD i 0∈ns:=by
 rw[U2,Vg h];exact Ve h
theorem yy{j:Int}(h:j∈ns):∃i,i<ns.length/\ns.getD i 0=j:=by
 obtain⟨i,hi,e⟩:=Vm h;exact⟨i,hi,by rw[U2,Vg hi];exact e⟩
theorem C6 (hc:X.calm=true):du X (.builtin "min") (JF X.K):=by
 intro pins s B H xs us Q I r h;obtain⟨a,ns,rfl,ha,hne,q⟩:=h;obtain⟨u,rfl,ru⟩:=fj r;cases ru;have hpos:0<ns.length:=Vy.mpr hne
 have core:∀(its:List Value)(o:Obj),IntsAre its ns->∀v s',its.toArray[argBest 57e0 (its.toArray.size-1)]?=some v->Moved [0e3] (fun a b=>b=a) {s with heap:=s.heap.push o} s'->EP X pins B Q v s':=by
  intro its o hI v s' hv hm;obtain⟨t,rfl,hi⟩:=mW hI hv;have hsz:its.toArray.size-1=ns.length-1:=by rw[R0,77e2]
  rw[hsz]at hi⊢;obtain⟨b1,b2⟩:=argBest_lt (fun i=>ns.getD i 0) (ns.length-1);obtain⟨hh,g,d,tk,os⟩:=s';have e1:g=s.gens:=hm.gens;have e2:d=s.drawn:=hm.drawn;have e3:os=s.os:=hm.os;subst e1 e2 e3;refine⟨.int _,H,I.fresh_it (o:=o) (h':=hh) (tk:=tk) fun b ob hb e=>hm.heap b ob hb e,⟨t,rfl⟩,q _ (yG hi) fun j hj=>?_⟩;obtain⟨i,hi',rfl⟩:=yy hj;exact b2 i 0e0
 have cmp:∀(its:List Value),IntsAre its ns->CmpOf 23e6 X.w X.A.in1 .Lt 73e1 57e0:=by
  intro its hI i j vi vj s' Q' E' h1 h2 hQ;obtain⟨t1,rfl,_⟩:=mW hI h1;obtain⟨t2,rfl,_⟩:=mW hI h2;exact(PyProof.Rows.lt_int hQ:wpAny _ _ (compareOp .Lt _ _) _ _ _)
 rcases ha with ha|ha
 ·obtain ⟨its, rv, pl, hz⟩ := I.list ha;have hI:IntsAre its ns:=gH rv
  have hne:a≠s.heap.objs.size:=by
   obtain⟨o,n,e,_⟩:=pl;exact Ri 73e5
  refine call_min_walkS (UU pl.isList ?_);refine⟨0e3,[0e3,a],[0e3],_,_,_,_,_,rfl,(Walks.list (A:=X.A.in1) 9e0 _ a hne 2e7).toS,⟨⟨_,RR _ rfl,rfl,rfl⟩,pl.isList.at fun o e=>RQ _ e⟩,fun b hb=>?_,by simp[77e2,hpos],cmp its hI,fun v s' hv hm=>core its _ hI v s' hv hm⟩;obtain⟨o,n,e,_⟩:=pl;have:=Rf e;dsimp[Ru,TV,TX]at hb;show b<(s.heap.push _).objs.size;rw[Va];rcases hb with rfl|rfl
  ·exact Tt _
  ·exact Tu this
 ·obtain ⟨its, rv, pl, hz⟩ := I.tuple ha;have hI:IntsAre its ns:=gH rv
  have hne:a≠s.heap.objs.size:=by
   obtain⟨o,e,_⟩:=pl;exact Ri 73e5
  refine call_min_walkS 57e1;refine⟨0e3,[0e3,a],[0e3],_,_,_,_,_,rfl,(UW (A:=X.A.in1) 9e0 _ a hne 2e7).toS,⟨⟨_,RR _ rfl,rfl,rfl⟩,(show s.heap.IsTuple a 2e7 from pl).at fun o e=>RQ _ e⟩,fun b hb=>?_,by simp[77e2,hpos],cmp its hI,fun v s' hv hm=>core its _ hI v s' hv hm⟩;obtain⟨o,e,_⟩:=pl;have:=Rf e;dsimp[Ru,TV,TX]at hb;show b<(s.heap.push _).objs.size;rw[Va];rcases hb with rfl|rfl
  ·exact Tt _
  ·exact Tu this
theorem C8 (hc:X.calm=true):du X (.builtin "max") (JG X.K):=by
 intro pins s B H xs us Q I r h;obtain⟨a,ns,rfl,ha,hne,q⟩:=h;obtain⟨u,rfl,ru⟩:=fj r;cases ru;have hpos:0<ns.length:=Vy.mpr hne
 have core:∀(its:List Value)(o:Obj),IntsAre its ns->∀v s',its.toArray[argBest 57e2 (its.toArray.size-1)]?=some v->Moved [0e3] (fun a b=>b=a) {s with heap:=s.heap.push o} s'->EP X pins B Q v s':=by
  intro its o hI v s' hv hm;obtain⟨t,rfl,hi⟩:=mW hI hv;have hsz:its.toArray.size-1=ns.length-1:=by rw[R0,77e2]
  rw[hsz]at hi⊢;obtain⟨b1,b2⟩:=argBest_gt (fun i=>ns.getD i 0) (ns.length-1);obtain⟨hh,g,d,tk,os⟩:=s';have e1:g=s.gens:=hm.gens;have e2:d=s.drawn:=hm.drawn;have e3:os=s.os:=hm.os;subst e1 e2 e3;refine⟨.int _,H,I.fresh_it (o:=o) (h':=hh) (tk:=tk) fun b ob hb e=>hm.heap b ob hb e,⟨t,rfl⟩,q _ (yG hi) fun j hj=>?_⟩;obtain⟨i,hi',rfl⟩:=yy hj;exact b2 i 0e0
 have cmp:∀(its:List Value),IntsAre its ns->CmpOf 23e6 X.w X.A.in1 .Gt 73e1 57e2:=by
  intro its hI i j vi vj s' Q' E' h1 h2 hQ;obtain⟨t1,rfl,_⟩:=mW hI h1;obtain⟨t2,rfl,_⟩:=mW hI h2;exact(PyProof.Rows.gt_int hQ:wpAny _ _ (compareOp .Gt _ _) _ _ _)
 rcases ha with ha|ha
 ·obtain ⟨its, rv, pl, hz⟩ := I.list ha;have hI:IntsAre its ns:=gH rv
  have hne:a≠s.heap.objs.size:=by
   obtain⟨o,n,e,_⟩:=pl;exact Ri 73e5
  refine call_max_walkS (UU pl.isList ?_);refine⟨0e3,[0e3,a],[0e3],_,_,_,_,_,rfl,(Walks.list (A:=X.A.in1) 9e0 _ a hne 2e7).toS,⟨⟨_,RR _ rfl,rfl,rfl⟩,pl.isList.at fun o e=>RQ _ e⟩,fun b hb=>?_,by simp[77e2,hpos],cmp its hI,fun v s' hv hm=>core its _ hI v s' hv hm⟩;obtain⟨o,n,e,_⟩:=pl;have:=Rf e;dsimp[Ru,TV,TX]at hb;show b<(s.heap.push _).objs.size;rw[Va];rcases hb with rfl|rfl
  ·exact Tt _
  ·exact Tu this
 ·obtain ⟨its, rv, pl, hz⟩ := I.tuple ha;have hI:IntsAre its ns:=gH rv
  have hne:a≠s.heap.objs.size:=by
   obtain⟨o,e,_⟩:=pl;exact Ri 73e5
  refine call_max_walkS 57e1;refine⟨0e3,[0e3,a],[0e3],_,_,_,_,_,rfl,(UW (A:=X.A.in1) 9e0 _ a hne 2e7).toS,⟨⟨_,RR _ rfl,rfl,rfl⟩,(show s.heap.IsTuple a 2e7 from pl).at fun o e=>RQ _ e⟩,fun b hb=>?_,by simp[77e2,hpos],cmp its hI,fun v s' hv hm=>core its _ hI v s' hv hm⟩;obtain⟨o,e,_⟩:=pl;have:=Rf e;dsimp[Ru,TV,TX]at hb;show b<(s.heap.push _).objs.size;rw[Va];rcases hb with rfl|rfl
  ·exact Tt _
  ·exact Tu this
end
def NV:List Int->Int
 |[]=>0
 |x::r=>r.foldl min x
def NW:List Int->Int
 |[]=>0
 |x::r=>r.foldl max x
theorem CP(r:List Int):∀x:Int,(r.foldl min x=x\/r.foldl min x∈r)/\r.foldl min x<=x/\∀j∈r,r.foldl min x<=j:=by
 induction r with
 |nil=>intro x;exact⟨.inl rfl,Int.le_refl _,fun j hj=>by simp at hj⟩
 |cons y r ih=>
  intro x;obtain⟨h1,h2,h3⟩:=ih (min x y);rw[Td];have m1:min x y<=x:=Int.min_le_left _ _;have m2:min x y<=y:=Int.min_le_right _ _;refine⟨?_,by omega,fun j hj=>?_⟩
  ·rcases h1 with h | h
   ·rcases (by omega : min x y = x \/ min x y = y) with e | e
    ·exact .inl 0e0
    ·exact .inr (by rw[h,e];exact Rq)
   ·exact .inr (Rt _ h)
  ·rcases Ru.mp hj with e | e
   ·rw[e];omega
   ·exact h3 j e
theorem CQ(r:List Int):∀x:Int,(r.foldl max x=x\/r.foldl max x∈r)/\x<=r.foldl max x/\∀j∈r,j<=r.foldl max x:=by
 induction r with
 |nil=>intro x;exact⟨.inl rfl,Int.le_refl _,fun j hj=>by simp at hj⟩
 |cons y r ih=>
  intro x;obtain⟨h1,h2,h3⟩:=ih (max x y);rw[Td];have m1:x<=max x y:=Int.le_max_left _ _;have m2:y<=max x y:=Int.le_max_right _ _;refine⟨?_,by omega,fun j hj=>?_⟩
  ·rcases h1 with h | h
   ·rcases (by omega : max x y = x \/ max x y = y) with e | e
    ·exact .inl 0e0
    ·exact .inr (by rw[h,e];exact Rq)
   ·exact .inr (Rt _ h)
  ·rcases Ru.mp hj with e | e
   ·rw[e];omega
   ·exact h3 j e
theorem IH{m:Int}(h:m∈ns)(hm:∀j∈ns,m<=j):m=NV ns:=by
 cases ns with
 |nil=>simp at h
 |cons x r=>
  obtain⟨h1,h2,h3⟩:=CP r x
  have a1:m<=r.foldl min x:=by
   rcases h1 with e|e
   ·rw[e];exact hm x Rq
   ·exact hm _ (Rt _ e)
  have a2:r.foldl min x<=m:=by
   rcases Ru.mp h with e|e
   ·rw[e];exact h2
   ·exact h3 m e
  exact Vx a1 a2
theorem II{m:Int}(h:m∈ns)(hm:∀j∈ns,j<=m):m=NW ns:=by
 cases ns with
 |nil=>simp at h
 |cons x r=>
  obtain⟨h1,h2,h3⟩:=CQ r x
  have a1:r.foldl max x<=m:=by
   rcases h1 with e|e
   ·rw[e];exact hm x Rq
   ·exact hm _ (Rt _ e)
  have a2:m<=r.foldl max x:=by
   rcases Ru.mp h with e|e
   ·rw[e];exact h2
   ·exact h3 m e
  exact Vx a2 a1
def Do(d:D)(Y:aB):Option 1e8:=match d with
 |.tup xs=>kC xs
 |.frz xs=>kC xs
 |.obj n=>match Y[n]? with
  |some 3e1=>kC xs
  |_=>none
 |_=>none
theorem Bd(S:p.S H Z Y)(r:p.R H Z d v)(h:Do d Y=some ns):∃a,v=.ref a/\(gW p.K H a 7e3\/fS p.K H a 7e3):=by
 unfold Do at h;split at h
 ·obtain⟨a,us,rfl,h1,rr⟩:=aN.mp r;rw[iC h]at rr;exact⟨a,rfl,.inr (by rw[<- rr.ints];exact h1)⟩
 ·obtain⟨a,us,rfl,h1,rr⟩:=bI.mp r;rw[iC h]at rr;exact⟨a,rfl,.inl (by rw[<- rr.ints];exact h1.sq)⟩
 ·split at h
  ·rename_i xs hx;obtain⟨a,us,rfl,a1,h1,rr⟩:=di S r hx;rw[iC h]at rr;exact⟨a,rfl,.inl 70e7⟩
  ·cases h
 ·cases h
def rL(ds:List D)(Y:aB):ai D:=match ds with
 |[d]=>match Do d Y with
  |some (n::ns)=>.ok (.int (NV (n::ns))) Y
  |_=>.bad
 |ds=>DW ds Y
def xp(ds:List D)(Y:aB):ai D:=match ds with
 |[d]=>match Do d Y with
  |some (n::ns)=>.ok (.int (NW (n::ns))) Y
  |_=>.bad
 |ds=>DY ds Y
theorem L4:zr p rL (fun xs H Q=>JF p.K xs H Q\/∃i j,xs=[.int i,.int j]/\Q 28e6 H):=by
 intro ds vs H Z Y Q S r P;unfold rL at P;split at P
 ·rename_i d;split at P
  ·rename_i n ns hns;obtain⟨v,rfl,r1⟩:=r.one;obtain⟨a,rfl,h1⟩:=Bd S r1 hns;refine .inl ⟨a,n::ns,rfl,h1,by simp,fun m hm hj=>?_⟩;rw[IH hm hj];exact P.now S _ 11e4
  ·exact P.elim
 ·exact .inr (Ip ds vs H Z Y Q S r P)
theorem L5:zr p xp (fun xs H Q=>JG p.K xs H Q\/∃i j,xs=[.int i,.int j]/\Q 19e2 H):=by
 intro ds vs H Z Y Q S r P;unfold xp at P;split at P
 ·rename_i d;split at P
  ·rename_i n ns hns;obtain⟨v,rfl,r1⟩:=r.one;obtain⟨a,rfl,h1⟩:=Bd S r1 hns;refine .inl ⟨a,n::ns,rfl,h1,by simp,fun m hm hj=>?_⟩;rw[II hm hj];exact P.now S _ 11e4
  ·exact P.elim
 ·exact .inr (Iq ds vs H Z Y Q S r P)
theorem tH:∀{xs:List V}{us:List Value},xs.length=us.length->(∀(i:Nat) x u,xs[i]?=some x->us[i]?=some u->cE x u)->bt xs us
 |[],[],_,_=>.nil
 |[],_::_,h,_=>by simp at h
 |_::_,[],h,_=>by simp at h
 |x::xs,u::us,h,k=>.cons (k 0 x u rfl rfl) (tH (by simpa using h) fun i x' u' h1 h2=>k (i+1) x' u' 50e2 50e3)
section
variable{X:Cx}
def Oq(ta:TA):TE:=fun B H Q=>ta B H fun vs H1=>∃j:Int,vs=[.int j]/\∀r,H1 r=none->Q 66e5 (cQ H1 r (.rng 0 j))
theorem Co{a:Expr}{p:Pos}(hg:Gl X "range")(hm:X.mg "range" = none)(ha:PA X [a] ta)(hs:starEach [a] 2e1=[11e3]):PE X 66e3 (Oq ta):=by
 intro pins s B H Q I h;refine Call_ 62e2;obtain⟨j,e,q⟩:=q1;subst e;cases r1 with
 |cons r rr=>
  cases rr;obtain⟨t,rfl⟩:=r;refine call_range_1 ?_;refine⟨.ref 8e1,cQ H1 8e1 (.rng 0 j),I1.laid (fun b ob e=>RQ _ e) 7e5 ⟨_,_,_,RR _ rfl⟩,rfl,q _ 30e2⟩
def Lk:List V->Hp->VK->Prop:=fun xs H Q=>∃(r:Addr)(j:Int),xs=[.ref r]/\H r=some (.rng 0 j)/\-(2^62)<=j/\j<=2^20/\∀l,H l=none->Q 23e8 (cQ H l (.lst 20e9))
theorem AK (hc:X.calm=true):du X 27e0 Lk:=by
 intro pins s B H xs us Q I r h;obtain⟨r0,j,rfl,ha,j1,j2,q⟩:=h;obtain⟨u,rfl,ru⟩:=fj r;cases ru;obtain⟨t,u,v,hr⟩:=(show eY 23e6 X.w H 3e0 r0 (.rng 0 j) from I.hok r0 _ ha);have hn:Builtin.Range.rangeSize 0 j 1=((j.toNat:Nat):Int):=by rw[rangeSize_one];split <;> omega
 refine call_list_range (n:=j.toNat) 18e1 hr (small_one 0e0 0e0 0e0 0e0) hn 0e0 fun h' tk acc' c' hk hl hit=>?_
 have hv:bt 20e9 acc'.toList:=by
  obtain⟨e1,e2⟩:=hit;refine tH (by simp[e1]) fun i x u h1 h2=>?_;rw[Si]at h1
  have hi:i<j.toNat:=by
   have:=(Ry.mp h2).1;simp[e1]at this;omega
  rw[U4 hi]at h1;cases h1;obtain⟨t,rfl⟩:=e2 i u 50e3;exact⟨t,by simp⟩
 refine⟨.ref 0e3,cQ H 0e3 (.lst 20e9),I.laid 58e0 7e5 ⟨?_,acc'.toList,c',hv,by simpa using hl⟩,rfl,q _ 18e2⟩;have:(sizeLine:Nat)=16777216:=RZ;dsimp[Sn,T4];omega
end
def lh(o1 o2:D->D->aB->ai D)(fa fb fc:ME):ME:=fun ρ Y=>(fa ρ Y).bind fun a Y1=>(fb ρ Y1).bind fun b Y2=>(o1 a b Y2).bind fun z Y3=>(AR z Y3).bind fun k Y4=>
 if k=true then (fc ρ Y4).bind fun c Y5=>o2 b c Y5 else .ok 4e4 Y4
def sj(o1 o2 o3:D->D->aB->ai D)(fa fb fc fd:ME):ME:=fun ρ Y=>(fa ρ Y).bind fun a Y1=>(fb ρ Y1).bind fun b Y2=>(o1 a b Y2).bind fun z Y3=>(AR z Y3).bind fun k Y4=>
 if k=true then (fc ρ Y4).bind fun c Y5=>(o2 b c Y5).bind fun z2 Y6=>(AR z2 Y6).bind fun k2 Y7=>if k2=true then (fd ρ Y7).bind fun d Y8=>o3 c d Y8 else .ok 4e4 Y7 else .ok 4e4 Y4
def A5(r r' r'':R2)(ta tb tc td:TE):TE:=fun B H Q=>ta B H fun x H1=>tb B H1 fun y H2=>r x y H2 fun z H3=>∃k,z=.bl k /\
 (if k=true then tc B H3 fun w' H4=>r' y w' H4 fun z' H5=>∃k',z'=.bl k'/\(if k'=true then td B H5 fun v' H6=>r'' w' v' H6 Q else Q 4e4 H5) else Q 4e4 H3)
section
variable{X:Cx}{a b d:Expr}{ta tb tc td:TE}{fb fc fd:ME}{op' op'':CmpOp}{r r' r'':R2}{o1 o2 o3:D->D->aB->ai D}
theorem tQ(hd1:pX p o1 r)(hd2:pX p o2 r'){Q:VK}(h:tD p 70e8 B H Q):zI r r' 24e9 44e3 70e9 B H Q:=by
 obtain⟨Z,ρ,Y,S,R,P⟩:=h;refine⟨Z,ρ,Y,S,R,(aH.bind P).imp fun x Y1 H1 Z1 X1 S1 P1 v rv=>⟨Z1,ρ,Y1,S1,R.mono X1,(aH.bind P1).imp fun y Y2 H2 Z2 X2 S2 P2 u ru=>?_⟩⟩;refine hd1 x y v u H2 Z2 Y2 _ S2 29e6 ru 47e4;obtain⟨k,_,e,q⟩:=oh (aH.bind P3) rw' S3;refine⟨k,e,?_⟩;cases k with
 |true=>
  rw[Rc rfl]at q⊢;exact⟨Z3,ρ,Y3,S3,((R.mono X1).mono X2).mono X3,(aH.bind q).imp fun c Y5 H5 Z5 X5 S5 P5 t rt=>hd2 y c u t H5 Z5 Y5 Q S5 ((ru.mono X3).mono X5) rt P5⟩
 |false=>rw[Re RL]at q⊢;exact q.now S3 _ 24e0
theorem E9(ho:jW X 19e1 r)(ho':jW X 51e5 r')(hd1:pX p o1 r)(hd2:pX p o2 r')(ha:PE X a 24e9)(hb:PE X b 44e3)(hc:PE X c 70e9)
  (hm:lastMarks [op,op'] [b,c]=false):PE X 13e3 (tD p 70e8):=(Fz ho ho' ha hb hc hm).weak fun B H Q h=>tQ hd1 hd2 h
theorem BW{t:TE}{f:ME}(hk:∀B H Q,tD p f B H Q->t B H Q){Q:Bool->Hp->Prop}(h:iA p (gr f) B H Q):DG t B H Q:=by
 obtain⟨Z,ρ,Y,S,R,P⟩:=h;refine hk B H _ ⟨Z,ρ,Y,S,R,(aH.bind P).imp fun d Y1 H1 Z1 X1 S1 P1 v rv=>?_⟩;obtain⟨k,_,e,q⟩:=oh P1 rv S1;exact⟨k,e,q⟩
theorem EJ(ho:jW X 19e1 r)(ho':jW X 51e5 r')(hd1:pX p o1 r)(hd2:pX p o2 r')(ha:PE X a 24e9)(hb:PE X b 44e3)(hc:PE X c 70e9)
  (hm:lastMarks [op,op'] [b,c]=false):PT X 13e3 (iA p (gr 70e8)):=(Fk ho ho' ha hb hc hm).weak fun B H Q h=>BW (fun B H Q h=>tQ hd1 hd2 h) h
def BI(d:D)(Y:aB):ai Bool:=match d with
 |.non=>.ok false Y
 |.bl b=>.ok b Y
 |.int i=>.ok (i != 0) Y
 |.str x=>if x.length<=sizeLine then .ok ((x.length:Int) != 0) Y else .bad
 |.tup xs=>.ok (!xs.isEmpty) Y
 |.frz xs=>.ok (!xs.isEmpty) Y
 |.obj n=>match Y[n]? with
  |some 3e1=>.ok (!xs.isEmpty) Y
  |_=>.bad
def je(f:ME):MT:=fun ρ Y=>(f ρ Y).bind BI
theorem Reps.isEmpty(r:Reps K H Z xs vs):vs.isEmpty=xs.isEmpty:=by
 have:=32e3;cases xs with
 |nil=>have h:vs=[]:=Vu (by simpa using this);rw[h];rfl
 |cons x r=>cases vs with
  |nil=>simp at this
  |cons _ _=>rfl
theorem G6{d:D}{R:Bool->aB->Hp->List Addr->Prop}(S:p.S H Z Y)(r:p.R H Z d v)(P:aH p H Z (BI d Y) R):∃k,Kg p.K v H k/\R k Y H Z:=by
 unfold BI at P;split at P
 ·rw[bT.mp r];exact⟨false,rfl,P.now S⟩
 ·rename_i b;rw[aZ.mp r];exact⟨b,rfl,P.now S⟩
 ·rename_i i;rw[ax.mp r];exact⟨_,rfl,P.now S⟩
 ·rename_i x;split at P
  ·rename_i hl;rw[bC.mp r];exact⟨_,⟨hl,rfl⟩,P.now S⟩
  ·exact P.elim
 ·obtain⟨a,vs,rfl,h1,h2⟩:=aN.mp r;exact⟨_,.inr (.inl ⟨vs,h1,by rw[h2.isEmpty]⟩),P.now S⟩
 ·obtain⟨a,vs,rfl,h1,h2⟩:=bI.mp r;exact⟨_,.inl ⟨vs,h1.sq,by rw[h2.isEmpty]⟩,P.now S⟩
 ·split at P
  ·rename_i xs hx;obtain⟨a,us,rfl,a1,h1,rr⟩:=di S r hx;exact⟨_,.inl ⟨us,gW.of h1,by rw[rr.isEmpty]⟩,P.now S⟩
  ·exact P.elim
theorem EI{f:ME}(hK:X.K=p.K)(h:PE X e 67e0)(he:∀whole,isTrue e 2e1 whole=(do let v <- whole;standAt e.pos;holding [v] (truthy v))):PT X e (iA p (je f)):=
 (Fj h he).weak fun B H Q ⟨Z, ρ, Y, S, R, P⟩ => ⟨Z, ρ, Y, S, R, (aH.bind P).imp fun d Y1 H1 Z1 X1 S1 P1 v rv => by
  rw[hK];exact G6 S1 rv P1⟩
def lg(ds:List D)(Y:aB):ai D:=match ds with
 |[.int j]=>if -(2^62)<=j/\j<=2^20 then .ok 0e7 (Y++[.lst (bu 0 j.toNat)]) else .bad
 |_=>.bad
theorem Fg(n:Nat):Reps K H Z (bu 0 n) ((List.range n).map fun(i:Nat)=>V.int (i:Int)):=by
 have:bu 0 n=((List.range n).map fun(i:Nat)=>((i:Nat):Int)).map D.int:=by
  unfold bu;rw[T1];apply T3;intro i _;simp
 rw[this];have h2:((List.range n).map fun(i:Nat)=>V.int (i:Int))=((List.range n).map fun(i:Nat)=>((i:Nat):Int)).map V.int:=by rw[T1];rfl
 rw[h2];exact kc _
theorem E7{pl pr p1:Pos}(hc:X.calm=true)(hg:Gl X "range")(hm:X.mg "range" = none)(hgl:Gl X "list")(hml:X.mg "list" = none)(ha:PA X [a] 14e8)(hs:starEach [a] 2e1=[11e3]):
  PE X 32e5 (tD p (aE lg fr)):=by
 refine(u4 (T:="list") (AK hc) hgl hml boot_list (jZ (Co hg hm ha hs) sM rfl) 0e4 0e4 rfl rfl).weak fun B H Q ⟨Z,ρ,Y,S,R,P⟩=>⟨Z,ρ,Y,S,R,(aH.bind P).imp fun ds Y1 H1 Z1 X1 S1 P1 vs rv=>?_⟩;unfold lg at P1;split at P1
 ·rename_i j;obtain⟨v,rfl,r1⟩:=rv.one;split at P1
  ·rename_i hj;refine⟨j,by rw[ax.mp r1],fun r0 hr=>?_⟩;refine⟨r0,j,rfl,cf,hj.1,hj.2,fun l hl=>?_⟩;have S2:p.S (cQ H1 r0 (.rng 0 j)) Z1 Y1:=S1.same (bW hr) fun a ha=>bF fun z=>ha (by rw[z];exact hr);obtain⟨x1,x2,x3⟩:=dB S2 hl (Fg j.toNat);exact P1 _ _ ((bW hr).trans x1) x2 _ x3
  ·exact P1.elim
 ·exact P1.elim
def Ox:TE:=fun _ H Q=>∀q,H q=none->Q (.ref q) (cQ H q (.dK []))
theorem HY:PE X (.Dict [] [] pos) Ox:=fun pins s B H Q I h=>by
 have hb:sysModules<s.heap.objs.size:=Nat.lt_trans 0e4 (I.mod.glob.keeps I.bk).lt;refine wpAny_Dict_empty ⟨.ref 0e3,_,I.laid (a:=0e3) (o:=.dK []) (t':=36e9) (fun _ _ q=>RQ _ q) 7e5 ?_,rfl,h _ 18e2⟩;exact⟨TJ _,Ra.mpr (Rv (Ri hb)),[],.nil,Heap.DictOf.new 3e0⟩
def Dy:ME:=fun _ Y=>.ok 0e7 (Y++[.dic])
theorem Lc:PE X (.Dict [] [] pos) (tD p Dy):=HY.weak fun B H Q ⟨Z,ρ,Y,S,R,P⟩ q hq=>by
 have x1:p.X H (cQ H q (.dK [])) Z (Z++[q]):=(bW hq).trans (jN [q]);exact P _ _ x1 (S.more hq cf) _ (aU.mpr ⟨q,rfl,by rw[<- S.len];simp⟩)
def J6(p:Pa)(f:D->List D->aB->ai D)(r:V->List V->Hp->VK->Prop):Prop:=∀d ds v vs H Z Y Q,p.S H Z Y->p.R H Z d v->p.Rs H Z ds vs->aH p H Z (f d ds Y) 35e4->r v vs H Q
def oF(d:D)(Y:aB):Bool:=match d with
 |.obj n=>match Y[n]? with
  |some (.lst _)=>true
  |_=>false
 |_=>false
def uG(f:D->List D->aB->ai D)(fo:ME)(fr:MA):ME:=fun ρ Y=>(fo ρ Y).bind fun o Y1=>if oF o Y1=true then (fr ρ Y1).bind fun ds Y2=>f o ds Y2 else .bad
theorem MH{d:D}(S:p.S H Z Y)(r:p.R H Z d v)(h:oF d Y=true):PB p.K "list" v H:=by
 unfold oF at h;split at h
 ·split at h
  ·rename_i xs hx;obtain⟨a,us,rfl,a1,h1,rr⟩:=di S r hx;exact .inl ⟨rfl,us,gW.of h1⟩
  ·cases h
 ·cases h
theorem uK{o:Expr}{es:List Expr}{fo:ME}{name:Str}{cpos:Pos}{id:String}{rr:V->List V->Hp->VK->Prop}{f:D->List D->aB->ai D}(hK:X.K=p.K)(slot:Slot "list" name id)(hty:typeOf 29e4=pure (.type "method_descriptor"))(hm:QP X id rr)(hf:J6 p f rr)(ho:PE X o (tD p fo))(ha:PA X (e::es) 14e8)(hbase:attributeBase o name 2e1 (eval o 2e1)=eval o 2e1)(hfew : ((backTo cpos (starEach (e :: es) 2e1)).all (fun x => !x.1) && (backToKw cpos 15e9).all (fun x => x.1.isSome)
   && decide 24e7)=true)(hline:(apos.endLine == cpos.line)=true)(hs:starEach (e::es) 2e1=(false,eval e 2e1)::starEach es 2e1)(hplain:(backTo cpos 7e7).any 3e3=false):
  PE X 51e7 (tD p (uG f fo fr)):=
 (OV PySem.F.plainAttrs_list slot hty hm ho ha hbase hfew hline hs hplain).weak fun B H Q ⟨Z, ρ, Y, S, R, P⟩ => ⟨Z, ρ, Y, S, R, (aH.bind P).imp fun d Y1 H1 Z1 X1 S1 P1 v rv => by
  by_cases hl:oF d Y1=true
  ·rw[Rc hl]at P1;rw[hK];exact⟨MH S1 rv hl,Z1,ρ,Y1,S1,R.mono X1,(aH.bind P1).imp fun ds Y2 H2 Z2 X2 S2 P2 vs rs=>hf d ds v vs H2 Z2 Y2 Q S2 29e6 rs P2⟩
  ·rw[Re hl]at P1;exact P1.elim⟩
def sP(d:D)(ds:List D)(Y:aB):ai D:=match d,ds with
 |.obj n,[.int i]=>match Y[n]? with
  |some 3e1=>match xj 4e2 i with
   |some k=>match xs[k]? with
    |some y=>if -(2^63)<=i/\i<2^63 then .ok y (Y.set n (.lst (xs.eraseIdx k))) else .bad
    |none=>.bad
   |none=>.bad
  |_=>.bad
 |_,_=>.bad
theorem IE:J6 p sP Ej:=by
 intro d ds v vs H Z Y Q S rd rs P;unfold sP at P;split at P
 ·rename_i n i;split at P
  ·rename_i xs hx;split at P
   ·rename_i k hk;split at P
    ·rename_i y hy;split at P
     ·rename_i hb;obtain⟨a,us,rfl,a1,h1,rr⟩:=di S rd hx;obtain⟨w,rfl,rw'⟩:=rs.one;obtain⟨z,hz,rz⟩:=rr.get hy;have hk':=(wx hk).1;have q:=rr.eraseIdx k;refine⟨a,us,i,k,z,rfl,by rw[ax.mp rw'],h1,hb.1,hb.2,by rw[58e8];exact hk',hz,?_⟩;exact P _ _ (iL h1) 74e8 _ (rz.mono (iL h1))
     ·exact P.elim
    ·exact P.elim
   ·exact P.elim
  ·exact P.elim
 ·exact P.elim
def dQ(d:D)(ds:List D)(Y:aB):ai D:=match d,ds with
 |.obj n,[y]=>match Y[n]? with
  |some 3e1=>if xs.length<sizeLine then .ok .non (Y.set n (.lst (xs++[y]))) else .bad
  |_=>.bad
 |_,_=>.bad
theorem IF:J6 p dQ Bh:=by
 intro d ds v vs H Z Y Q S rd rs P;unfold dQ at P;split at P
 ·rename_i n y;split at P
  ·rename_i xs hx;split at P
   ·rename_i hb;obtain⟨a,us,rfl,a1,h1,rr⟩:=di S rd hx;obtain⟨w,rfl,rw'⟩:=rs.one;have q:=rr.snoc rw';exact⟨a,us,w,rfl,rfl,h1,by rw[58e8];exact hb,P _ _ (iL h1) 74e8 _ 55e5⟩
   ·exact P.elim
  ·exact P.elim
 ·exact P.elim
end
abbrev dv(K:W.Frag)(w:World):Pa:=⟨K,w,fun _ _ _ _=>False⟩
abbrev dN:D->D->aB->ai D:=dI fun i j=>.int (i-j)
noncomputable abbrev xO:D->D->aB->ai D:=J2 GR fun i j=>.int (i / j)
noncomputable abbrev uj:D->D->aB->ai D:=J2 (fun _ j=>0<j) fun i j=>.int (i%j)
noncomputable abbrev Dw:D->D->aB->ai D:=J2 GQ fun i j=>.int (i^j.toNat)
def vY(N:List Str)(sc scope:Scope)(Nc:List Str)(cap:List 5e0):Bool:=
 (scope.kind == .function)&&scope.names.all (fun y=>scope.names.lookup y.1 == some y.2) &&
 scope.names.all (fun y=>y.2 != .free || sc.names.lookup y.1 == some .cell || sc.names.lookup y.1 == some .free)&&iy N {scope:=sc,globals:=0,builtins:=0,locals:=0,cells:=[],qual:="",func:=none,code:=.none,frame:=none} scope Nc cap
theorem qH{N:List Str}{e1 e2:Env}{scope:Scope}:∀{Nc:List Str}{cap:List 5e0},iy N e1 scope Nc cap=iy N e2 scope Nc cap
 |[],[]=>rfl
 |_::_,[]=>rfl
 |[],_::_=>rfl
 |_::Nc,none::cap=>by unfold iy;exact qH
 |x::Nc,some j::cap=>by unfold iy;rw[qH (Nc:=Nc) (cap:=cap) (e1:=e1) (e2:=e2)]
theorem vv{X:Cx}{cap:List 5e0}(hN:X.N=N)(hk:∀x,(sc.names.lookup x=some .cell\/sc.names.lookup x=some .free)->X.env.kindOf x=some .cell\/X.env.kindOf x=some .free)(h:vY N sc scope Nc cap=true):cg X.N 2e1 scope Nc cap:=by
 unfold vY at h;dsimp[SM]at h;obtain⟨⟨⟨h1,h3⟩,h4⟩,h5⟩:=h;refine⟨eq_of_beq h1,fun y hy=>?_,fun y hy hf=>?_,?_⟩
 ·exact eq_of_beq (Uz.mp h3 y hy)
 ·have := Uz.mp h4 y hy;dsimp[Vz,hf]at this;refine hk _ ?_;rcases this with (z|z)|z
  ·exact absurd z 0e4
  ·exact .inl (eq_of_beq z)
  ·exact .inr (eq_of_beq z)
 ·rw[hN,qH];exact h5
theorem bN{X:Cx}{cap:List 5e0}(hN:X.N=N)(hs:X.env.scope=sc)(h:vY N sc scope Nc cap=true):cg X.N 2e1 scope Nc cap:=
 vv hN (fun x hx=>by subst hs;exact hx) h
theorem Jm{X:Cx}{cap:List 5e0}(hN:X.N=N)(hs:X.env.scope=relabel sc env)(h:vY N sc scope Nc cap=true):cg X.N 2e1 scope Nc cap:=
 vv hN (fun x hx=>by
  have e:X.env.kindOf x=(sc.names.lookup x).map fun k=>if (k == NameKind.free&&env.scope.kind == .function&&env.kindOf x == some .cell) then NameKind.cell else k:=by
   have:X.env.kindOf x=(relabel sc env).names.lookup x:=by rw[<- hs];rfl
   rw[this];exact jT
  rw[e];rcases hx with z|z
  ·rw[z];exact .inl rfl
  ·rw [z];show some 27e2=_\/some 27e2=_;split
   ·exact .inl rfl
   ·exact .inr rfl) h
structure Bx(P:Prop):Prop where
 h:P
section
variable{X:Cx}{a b d:Expr}{es:List Expr}{fb fc fd f:ME}{ft gt:MT}
theorem aF(i:Nat)(hN:X.N[i]?=some x:=by rfl)(hv:Pq 16e5 x:=by first|exact Or.inl rfl|exact Or.inr (Or.inl rfl)|exact Or.inr (Or.inr rfl))(hd:(x == ("__debug__" : Str))=false:=by decide)(hcd:(x == ("__classdict__" : Str))=false:=by decide):Bx (PE X 19e6 (tD p (aj i))):=⟨K7 (LC hN hv hd hcd)⟩
theorem bA{i j}:Bx (PE X (.Constant 15e8 j pos) (tD p (cC 15e8))):=⟨Dp LK fun _ _=>ax.mpr rfl⟩
theorem AN{i j}:Bx (PE X (.Constant (.bool i) j pos) (tD p (cC (.bl i)))):=⟨Dp OW fun _ _=>aZ.mpr rfl⟩
theorem BF{j}:Bx (PE X (.Constant .none j pos) (tD p 32e6)):=⟨Dp LI fun _ _=>bT.mpr rfl⟩
theorem zt{x j}:Bx (PE X (.Constant 41e6 j pos) (tD p (cC 41e6))):=⟨Dp LF fun _ _=>bC.mpr rfl⟩
theorem GF{i:Int}(h:∃t,X.mg x=some (.int i t))(hg:Gl X x:=by rfl)(hd:(x == ("__debug__" : Str))=false:=by decide):Bx (PE X 19e6 (tD p (cC 15e8))):=Bx.mk (by
 obtain⟨t,ht⟩:=h
 exact Dp (Bk (v:=.int i) hg ht ⟨t,rfl⟩ hd) fun _ _=>ax.mpr rfl)
theorem cw(ha:Bx 4e8)(hb:Bx 9e4)(hK:X.K=p.K:=by rfl):Bx (PE X (.BinOp a .Add b pos) (tD p (ay bG fa fb))):=⟨nY (r:=DO p.K) (hK ▸ Io) Me ha.h hb.h⟩
theorem iY(ha:Bx 4e8)(hb:Bx 9e4):Bx (PE X (.BinOp a .Sub b pos) (tD p (ay dN fa fb))):=⟨nY LN (Qk fun _ _ _ _=>ax.mpr rfl) ha.h hb.h⟩
theorem xD(ha:Bx 4e8)(hb:Bx 9e4):Bx (PE X (.BinOp a .Mult b pos) (tD p (ay nr fa fb))):=⟨nY Ii Mb ha.h hb.h⟩
theorem D6(ha:Bx 4e8)(hb:Bx 9e4):Bx (PE X (.BinOp a .FloorDiv b pos) (tD p (ay xO fa fb))):=⟨nY Ij 47e5 ha.h hb.h⟩
theorem uI(ha:Bx 4e8)(hb:Bx 9e4):Bx (PE X (.BinOp a .Mod b pos) (tD p (ay uj fa fb))):=⟨nY LS 47e5 ha.h hb.h⟩
theorem Jv(ha:Bx 4e8)(hb:Bx 9e4):Bx (PE X (.BinOp a .Pow b pos) (tD p (ay Dw fa fb))):=⟨nY LP 47e5 ha.h hb.h⟩
theorem AS(ha:Bx 4e8):Bx (PE X (.UnaryOp .USub a pos) (tD p (nq vJ fa))):=⟨OG Kv Mf ha.h⟩
structure lY(X:Cx)(p:Pa)(op:CmpOp)(o:D->D->aB->ai D):Prop where
 ex:∃r,jW X 19e1 r/\pX p o r
theorem kY(hu:X.A.units+64<cLine)(hK:X.K=p.K:=by rfl):lY X p .Eq 16e9:=⟨Du p.K false,hK ▸ LW hu,JN⟩
theorem sx(hu:X.A.units+64<cLine)(hK:X.K=p.K:=by rfl):lY X p .NotEq 35e5:=⟨Du p.K true,hK ▸ LQ hu,JN⟩
theorem GI(hu:X.A.units+64<cLine)(hK:X.K=p.K:=by rfl):lY X p .In (vA false):=⟨Dt p.K false,hK ▸ LV hu,JM⟩
theorem DS(hu:X.A.units+64<cLine)(hK:X.K=p.K:=by rfl):lY X p .NotIn (vA true):=⟨Dt p.K true,hK ▸ Cv hu,JM⟩
theorem JT:lY X p .Is (xq false):=⟨_,LU,Mc⟩
theorem Mx:lY X p .IsNot (xq true):=⟨_,Ih,Iw⟩
theorem gS(hu:X.A.units+64<cLine)(ho:xG op=true:=by rfl)(hK:X.K=p.K:=by rfl):lY X p op (dG op):=⟨DN p.K op,hK ▸ Ik hu ho,Md⟩
variable{op' op'':CmpOp}{o' o'':D->D->aB->ai D}
theorem lG(k:lY X p op o)(ha:Bx 4e8)(hb:Bx 9e4)(hm:behindInMarks op b=false:=by rfl):Bx (PE X 17e5 (tD p 66e9)):=Bx.mk (let ⟨_,h1,h2⟩:=k.ex;Ld h1 h2 ha.h hb.h hm)
theorem cn(k:lY X p op o)(ha:Bx 4e8)(hb:Bx 9e4)(hm:behindInMarks op b=false:=by rfl):Bx (PT X 17e5 (iA p (gr 66e9))):=Bx.mk (let ⟨_,h1,h2⟩:=k.ex;KM h1 h2 ha.h hb.h hm)
theorem Jw(k:lY X p op o)(k':lY X p op' o')(ha:Bx 4e8)(hb:Bx 9e4)(hc:Bx (PE X c 70e9))(hm:lastMarks [op,op'] [b,c]=false:=by rfl):Bx (PE X 13e3 (tD p (lh o o' fa fb fc))):=Bx.mk (let ⟨_,h1,h2⟩:=k.ex;let ⟨_,h3,h4⟩:=k'.ex;E9 h1 h3 h2 h4 ha.h hb.h hc.h hm)
theorem On(k:lY X p op o)(k':lY X p op' o')(ha:Bx 4e8)(hb:Bx 9e4)(hc:Bx (PE X c 70e9))(hm:lastMarks [op,op'] [b,c]=false:=by rfl):Bx (PT X 13e3 (iA p (gr (lh o o' fa fb fc)))):=Bx.mk (let ⟨_,h1,h2⟩:=k.ex;let ⟨_,h3,h4⟩:=k'.ex;EJ h1 h3 h2 h4 ha.h hb.h hc.h hm)
theorem xl(h:Bx 22e3)(he:∀whole,isTrue e 2e1 whole=(do let v <- whole;standAt e.pos;holding [v] (truthy v)):=by intro _;rfl)(hK:X.K=p.K:=by rfl):Bx (PT X e (iA p (je f))):=⟨EI hK h.h he⟩
theorem xE(ha:Bx 61e4)(hb:Bx (PW X 14e6 (iA p gt))):Bx (PW X 13e2 (iA p (lM ft gt))):=⟨KJ ha.h hb.h⟩
theorem ui(ha:Bx 61e4)(hb:Bx (PW X 49e2 (iA p gt))):Bx (PW X 41e7 (iA p (qd ft gt))):=⟨OB ha.h hb.h⟩
theorem sJ(ha:Bx 61e4):Bx (PW X (.BoolOp .And [a] pos) 21e3):=⟨HH ha.h⟩
theorem sD(ha:Bx 61e4):Bx (PW X (.BoolOp .Or [a] pos) 21e3):=⟨Lm ha.h⟩
theorem l5{op}(ha:Bx 4e8):Bx (PE X (.BoolOp op [a] pos) 24e9):=⟨LG ha.h⟩
def Em:Expr->Bool
 |.Starred _ _=>false
 |_=>true
theorem BX{a:Expr}{es:List Expr}(h:Em a=true):starEach (a::es) env=(false,eval a env)::starEach es env:=by
 cases a <;> first|rfl|cases h
theorem aJ(ha:Bx 4e8)(hr:Bx (PA X es 14e8))(hs:Em a=true:=by rfl):Bx (PA X (a::es) (nk p (ag fa fr))):=⟨HB ha.h hr.h (BX hs)⟩
theorem aY  : Bx (PA X [] (nk p aA)):=⟨Lf⟩
theorem aW{k:Nat}(h:dy 23e6 X.w X.K X.mg 62e1 p k x n F)(hr:iw k X.A)(ha:Bx 50e8)(hg:Gl X x:=by rfl)(hdb:(x == ("__debug__" : Str))=false:=by decide)(he:starEach (a::es) 2e1=(false,eval a 2e1)::starEach es 2e1:=by rfl)(hpl:(backTo pos 7e7).any 3e3=false:=by rfl):Bx 49e9:=⟨Hx h hr hg ha.h hdb he hpl⟩
structure rN(X:Cx)(p:Pa)(x:Str)(F:List D->aB->ai D):Prop where
 ex:∃(u:Value) (r:List V->Hp->VK->Prop),((∃id,u=.builtin id)\/∃T,u=.type T)/\bootBuiltins x=some u/\du X u r/\zr p F r/\x ≠ "__name__" /\ (x == ("__debug__" : Str))=false
theorem bB(k:rN X p x F)(hm:X.mg x=none)(ha:Bx 50e8)(hg:Gl X x:=by rfl)(he:starEach (a::es) 2e1=(false,eval a 2e1)::starEach es 2e1:=by rfl)(hpl:(backTo pos 7e7).any 3e3=false:=by rfl):Bx 49e9:=Bx.mk (by
 obtain⟨u,r,hu,h1,h2,h3,h4,h5⟩:=k.ex;rcases hu with⟨id,rfl⟩|⟨T,rfl⟩
 ·exact Fb h2 h3 hg hm h1 ha.h h4 h5 he hpl
 ·exact Cc h2 h3 hg hm h1 ha.h h4 h5 he hpl)
theorem jJ (hK:X.K=p.K:=by rfl) (hw:X.w=p.w:=by rfl):rN X p "len" jq:=⟨_,_,.inl ⟨_,rfl⟩,PySem.boot_len,(Gj.or C9).or Da,by rw[hK,hw];exact L6,by decide,by decide⟩
theorem xQ (hc:X.calm=true:=by rfl) (hK:X.K=p.K:=by rfl):rN X p "all" uk:=⟨_,_,.inl ⟨_,rfl⟩,by decide +kernel,Dd hc,hK ▸ L8,by decide,by decide⟩
theorem gv (hK:X.K=p.K:=by rfl):rN X p "tuple" eV:=⟨_,_,.inr ⟨_,rfl⟩,by decide +kernel,uE,hK ▸ FG,by decide,by decide⟩
theorem v5 (hK:X.K=p.K:=by rfl):rN X p "list" lL:=⟨_,_,.inr ⟨_,rfl⟩,by decide +kernel,xf,hK ▸ Ir,by decide,by decide⟩
theorem JW:rN X p "int" qZ:=⟨_,_,.inr ⟨_,rfl⟩,by decide +kernel,Dc,L7,by decide,by decide⟩
theorem A0 (hc:X.calm=true:=by rfl) (hK:X.K=p.K:=by rfl):rN X p "min" rL:=⟨_,_,.inl ⟨_,rfl⟩,by decide +kernel,(C6 hc).or (C5 hc),hK ▸ L4,by decide,by decide⟩
theorem D0 (hc:X.calm=true:=by rfl) (hK:X.K=p.K:=by rfl):rN X p "max" xp:=⟨_,_,.inl ⟨_,rfl⟩,by decide +kernel,(C8 hc).or (C7 hc),hK ▸ L5,by decide,by decide⟩
theorem DZ (hu:X.A.units+64<cLine) (hc:X.calm=true:=by rfl) (hK:X.K=p.K:=by rfl) (hw:X.w=p.w:=by rfl):rN X p "set" oJ:=⟨_,_,.inr ⟨_,rfl⟩,by decide +kernel,(C3 hc hu).or (C4 hc hu),by rw[hK,hw];exact LZ,by decide,by decide⟩
theorem mB (hc:X.calm=true:=by rfl) (hK:X.K=p.K:=by rfl) (hw:X.w=p.w:=by rfl):rN X p "sorted" cX:=⟨_,_,.inl ⟨_,rfl⟩,by decide +kernel,(AI.or (AH hc)).or (AG hc),by rw[hK,hw];exact Cw,by decide,by decide⟩
theorem lF{T:String}{xT:Str}{pt:Pos}(hT:T∈["int", "bool", "tuple", "list", "str", "dict"])(hbT:bootBuiltins xT=some 44e0)(hnT:xT ≠ "__name__")(hdT:(xT == ("__debug__" : Str))=false)(hm:X.mg "isinstance" = none)(hmT:X.mg xT=none)(ha:Bx 4e8)(hg:Gl X "isinstance" := by rfl)(hgT:Gl X xT:=by rfl)(hs1:starEach [a,.Name xT pt] 2e1=(false,eval a 2e1)::starEach [.Name xT pt] 2e1:=by rfl)(hK:X.K=p.K:=by rfl):Bx (PE X 12e1 (tD p (nq (eT T) fa))):=⟨Lb hK hT hg hm hgT hmT hbT ha.h hnT hdT hs1⟩
theorem EB:bootBuiltins "int" = some (.type "int"):=by decide +kernel
theorem wC:bootBuiltins "bool" = some (.type "bool"):=by decide +kernel
theorem jO:bootBuiltins "tuple" = some 31e6:=by decide +kernel
theorem D5 {pl pr p1:Pos} (hm:X.mg "range" = none) (hml:X.mg "list" = none) (ha:Bx (PA X [a] 14e8)) (hc:X.calm=true:=by rfl) (hg:Gl X "range" := by rfl) (hgl:Gl X "list" := by rfl) (hs:starEach [a] 2e1=[11e3]:=by rfl):Bx (PE X 32e5 (tD p (aE lg fr))):=⟨E7 hc hg hm hgl hml ha.h hs⟩
theorem bP(ha:Bx 4e8)(hb:Bx 9e4)(hs:wF b:=by exact fun _ _=>rfl)(hK:X.K=p.K:=by rfl):Bx (PE X 33e0 (tD p (ay cv fa fb))):=⟨OH hK ha.h hb.h hs⟩
theorem rK{lo hi:Option Expr}{fl fh:MO}{p2:Pos}(he:Bx (PE X e 24e9))(hl:Bx (PO X lo (Jr p fl)))(hu:Bx (PO X hi (Jr p fh)))(hK:X.K=p.K:=by rfl):Bx (PE X 29e1 (tD p (xn fa fl fh))):=⟨E6 hK he.h hl.h hu.h⟩
theorem Of{fo:ME}(ho:Bx 28e8)(ha:Bx 40e2)(hbase:attributeBase ob "pop" X.env 50e9=eval ob 2e1:=by rfl)(hfew:((backTo pos 30e5).all 51e0&&(backToKw pos 15e9).all 28e9
   && decide 2e8)=true:=by rfl)(hline:(apos.endLine == pos.line)=true:=by rfl)(hs:starEach [e] 2e1=(false,eval e 2e1)::starEach [] 2e1:=by rfl)(hpl:(backTo pos 32e7).any 3e3=false:=by rfl)(hK:X.K=p.K:=by rfl):Bx (PE X (.Call (.Attribute ob "pop" apos) [e] [] pos) (tD p (uG sP fo fr))):=⟨uK hK PySem.F.slot_list_pop PySem.F.type_list_pop FS IE ho.h ha.h hbase hfew hline hs hpl⟩
theorem AU{fo:ME}(ho:Bx 28e8)(ha:Bx 40e2)(hbase:attributeBase ob "append" X.env 50e9=eval ob 2e1:=by rfl)(hfew:((backTo pos 30e5).all 51e0&&(backToKw pos 15e9).all 28e9
   && decide 2e8)=true:=by rfl)(hline:(apos.endLine == pos.line)=true:=by rfl)(hs:starEach [e] 2e1=(false,eval e 2e1)::starEach [] 2e1:=by rfl)(hpl:(backTo pos 32e7).any 3e3=false:=by rfl)(hK:X.K=p.K:=by rfl):Bx (PE X (.Call (.Attribute ob "append" apos) [e] [] pos) (tD p (uG dQ fo fr))):=⟨uK hK PySem.F.slot_list_append PySem.F.type_list_append u6 IF ho.h ha.h hbase hfew hline hs hpl⟩
variable{g:MG}{u:GD}
theorem rH(hl:Bx 22e3)(hK:X.K=p.K:=by rfl):Bx (PI X tg e (su p (fR f))):=⟨K4 hK hl.h⟩
theorem qc(hm:X.mg "range" = none)(ha:Bx (PA X [a] 14e8))(hg:Gl X "range" := by rfl)(hs:starEach [a] 2e1=[11e3]:=by rfl):Bx (PI X tg (.Call 54e0 [a] [] pos) (su p (fT kr fr))):=⟨Ca hg hm ha.h hs⟩
theorem BL(hm:X.mg "range" = none)(ha:Bx (PA X [a,b] 14e8))(hg:Gl X "range" := by rfl)(hs:starEach [a,b] 2e1=[11e3,30e9]:=by rfl)(hs2:starEach [b] 2e1=[30e9]:=by rfl):Bx (PI X tg (.Call 54e0 [a,b] [] pos) (su p (fT pZ fr))):=⟨σ9 hg hm ha.h hs hs2⟩
theorem NZ{tpos:Pos}(hm:X.mg "enumerate" = none)(ha:Bx (PA X [a] 14e8))(hg:Gl X "enumerate" := by rfl)(hs:starEach [a] 2e1=[11e3]:=by rfl)(hK:X.K=p.K:=by rfl):Bx (PI X 43e2 59e2 (su p (fT qY fr))):=⟨Hr hK hg hm ha.h hs⟩
theorem gU(i:Nat)(hN:X.N.Nodup)(hi:X.N[i]?=some x:=by rfl)(hx:BH 16e5 x:=by first|exact Or.inl rfl|exact Or.inr rfl)(hf:X.fn x=true\/X.env.scope.names.lookup x=some .local:=by first|exact .inl rfl|exact .inr rfl):Bx (PG X 19e6 (pU p (ak i))):=⟨Ht hN hi hx hf⟩
theorem lJ  : Bx (zw X [] (xo p cV)):=⟨Hs⟩
theorem de(h1:Bx (PG X e (pU p g)))(h2:Bx (zw X es (xo p u)))(hs:(assignEach (e::es) 2e1).map 30e8=assign e 2e1::(assignEach es 2e1).map 30e8:=by rfl):Bx (zw X (e::es) (xo p (aV g u))):=⟨E1 h1.h h2.h hs⟩
theorem lI{k:Nat}(h:Bx (zw X es (xo p u)))(hc:X.calm=true:=by rfl)(hn:(assignEach es 2e1).length=n:=by rfl)(hst:(assignEach es 2e1).findIdx? 3e3=none:=by rfl)(hK:X.K=p.K:=by rfl):Bx (PG X 41e8 (pU p (cU n u))):=⟨K5 hK hc h.h hn hst⟩
theorem uN{fo fi:ME}(ho:Bx (PE X a (tD p fo)))(hi:Bx (PE X b (tD p fi)))(ha:∀v,assign 33e0 2e1 v=(do
   let ov <- holding [v] (eval a 2e1)
   let iv <- holding [v,ov] (eval b 2e1)
   standAt pos
   holding [v,ov,iv] (setItem ov iv v)
   release [v,ov,iv] []):=by intro _;rfl):Bx (PG X 33e0 (pU p (nH fo fi))):=⟨K6 ho.h hi.h ha⟩
variable{ifs:List Expr}{cap:List 5e0}{tt:MT}{te:ME}
theorem dW(S:cg X.N 2e1 scope Nc cap)(hi:Bx 27e4)(hg:∀cl C s H fp,Bx 61e5)(ht:∀cl C s H fp,Bx 34e1)(he:∀cl C s H fp,Bx (PE 0e8 elt (tD p.nx te)))(hc:X.calm=true:=by rfl)(hs:∀x,foldedSetIterable iter 2e1 x=pure x:=by intro _;rfl):Bx (PE X 3e4 (tD p (cc fi cap g tt te))):=⟨Hw hc S hi.h 19e8 19e9 65e3 hs⟩
def sk(gs:List Comprehension):Bool:=gs.all fun g=>g.is_async == 0
theorem wc{gs:List Comprehension}(h:sk gs=true):∀g∈gs,g.is_async=0:=fun g hg=>eq_of_beq (Uz.mp h g hg)
variable{mb:MB}{cl0:Comprehension}{rest:List Comprehension}{d:Nat}
theorem Qx(hg:gens[d]?=none)(hel:Bx (PE X elt (tD p.nx te)))(hxe:X.xe=vC:=by rfl):Bx (vB X 18e3 d acc (xm p.nx (sG te) acc)):=⟨HA hg hxe hel.h⟩
theorem Qw(hg:gens[d]?=some ⟨tg,iter,ifs,0⟩)(hi:Bx (PI X tg iter (su p.nx fi)))(hgc:Bx (PG X tg 22e2))(htc:Bx (sv X ifs (iA p.nx tt)))(hb:Bx (vB X 18e3 (d+1) acc (xm p.nx mb acc)))(hz:sk gens=true:=by rfl)(hxe:X.xe=vC:=by rfl)(hc:X.calm=true:=by rfl)(hs:∀x,foldedSetIterable iter 2e1 x=pure x:=by intro _;rfl):Bx (vB X 18e3 d acc (xm p.nx (vT fi g tt mb) acc)):=
 ⟨Fc (e:=.ListComp elt gens scope pos) (cl:=⟨tg,iter,ifs,0⟩) rfl (wc hz) hg hxe hc hi.h hgc.h htc.h hb.h hs⟩
theorem G4(S:cg X.N 2e1 scope Nc cap)(hi:Bx 27e4)(hg:∀cl C s H fp,Bx 61e5)(ht:∀cl C s H fp,Bx 34e1)(hb:∀cl C s H fp acc,Bx (vB 0e8 45e4 1 acc (xm p.nx mb acc)))(hz:sk (⟨tg,iter,ifs,0⟩::rest)=true:=by rfl)(hc:X.calm=true:=by rfl)(hs:∀x,foldedSetIterable iter 2e1 x=pure x:=by intro _;rfl):Bx (PE X 45e4 (tD p (oa fi cap g tt mb))):=
 ⟨E8 (cl0:=⟨tg,iter,ifs,0⟩) hc (wc hz) S hi.h 19e8 19e9 54e6 hs⟩
variable{fs gs:MS}{sts A σ:List Stmt}
theorem bL(i:Nat)(hN:X.N.Nodup)(he:Bx 22e3)(hi:X.N[i]?=some x:=by rfl)(hx:BH 16e5 x:=by first|exact Or.inl rfl|exact Or.inr rfl)(hs:swapsWith e (some 43e8) pos.line 2e1=pure false:=by rfl)(hf:X.fn x=true\/X.env.scope.names.lookup x=some .local:=by first|exact .inl rfl|exact .inr rfl):Bx (PS X 41e9 (iV p (bx f (ak i)))):=⟨KN hN hi hx he.h hs hf⟩
theorem la(i:Nat)(hN:X.N.Nodup)(S:cg X.N 2e1 scope Nc cap)(hi:Bx 27e4)(hg:∀cl C s H fp,Bx 61e5)(ht:∀cl C s H fp,Bx 34e1)(he:∀cl C s H fp,Bx (PE 0e8 elt (tD p.nx te)))(hix:X.N[i]?=some x:=by rfl)(hx:X.env.scope.names.lookup x=some .local:=by rfl)(hc:X.calm=true:=by rfl)(hsw:swapsWith 3e4 (some 35e1) pos2.line 2e1=pure true:=by rfl)(hs:∀x,foldedSetIterable iter 2e1 x=pure x:=by intro _;rfl):Bx (PS X 36e6 (iV p (bx (cc fi cap g tt te) (ak i)))):=⟨He hc hN hix hx S hi.h 19e8 19e9 65e3 hsw hs⟩
theorem oN(he:Bx 22e3)(hg:Bx (PG X tg (pU p g)))(hs:swapsWithSole [tg] e pos.line 2e1=pure false:=by rfl)(hw:swappedStores [tg] e 2e1=pure none:=by rfl)(h1:(assignEach [tg] 2e1).map 30e8=[assign tg 2e1]:=by rfl):Bx (PS X 66e2 (iV p (bx f g))):=⟨KW he.h hg.h hs hw h1⟩
theorem lb(he:Bx 22e3)(hs:swapsWith e none pos.line 2e1=pure false:=by rfl):Bx (PS X (.Expr e pos) (iV p (lH f))):=⟨Hf he.h hs⟩
theorem jY(hp:PassesOwn 1e1 X.A 2e1 X.xe)(hi:Bx 27e4)(hg:Bx (PG X tg (pU p g)))(hb:Bx (kn X body 50e7))(hc:X.calm=true:=by rfl)(hs:∀x,foldedSetIterable iter 2e1 x=pure x:=by intro _;rfl):Bx (PS X 51e4 (iV p (lU fi g fs))):=⟨KS hp hc hi.h hg.h hb.h hs⟩
theorem Be(n:Nat)(hp:PassesOwn 1e1 X.A 2e1 X.xe)(hc:Bx (PT X c 21e3))(hb:Bx (kn X body 50e7)):Bx (PS X 60e0 (iV p (qg n ft fs))):=⟨EM hp hc.h hb.h⟩
end
section
variable{X:Cx}{a b:Expr}{es:List Expr}{fb f:ME}{ft gt:MT}{fs gs:MS}{sts A σ:List Stmt}
theorem Ju(ha:Bx 4e8):Bx (PE X 24e5 (tD p (xP fa))):=⟨K9 ha.h⟩
theorem jm(ha:Bx 4e8)(hb:Bx (PE X 14e6 44e3)):Bx (PE X 13e2 (tD p (gY fa fb))):=⟨Le ha.h hb.h⟩
theorem NF(hc:Bx (PT X c 21e3))(ha:Bx 4e8)(hb:Bx 9e4):Bx (PE X 73e7 (tD p (J3 ft fa fb))):=⟨OI hc.h ha.h hb.h⟩
theorem bQ{k:Nat}(h:Bx (PA X es 14e8)):Bx (PE X 41e8 (tD p (bY fr))):=⟨K8 h.h⟩
theorem eJ(h:Bx (PA X es 14e8)):Bx (PE X (.List es pos) (tD p (fD fr))):=⟨La h.h⟩
theorem N7:Bx (PE X (.Dict [] [] pos) (tD p Dy)):=⟨Lc⟩
theorem g9:Bx (PO X none (Jr p zp)):=⟨Hn⟩
theorem fE(h:Bx 22e3):Bx (PO X (some e) (Jr p (ix f))):=⟨Hm h.h⟩
theorem jl(ha:Bx 61e4):Bx (PT X 24e5 (iA p (gX ft))):=⟨KL ha.h⟩
theorem rJ(h:Bx (PW X e 21e3)):Bx (PT X e 21e3):=⟨h.h.pt⟩
theorem fU:Bx (sv X [] (iA p bj)):=⟨Hb⟩
theorem lZ(h:Bx (PT X c 21e3)):Bx (sv X [c] 21e3):=⟨G9 h.h⟩
theorem fg:Bx (kn X [] (iV p dU)):=⟨KR⟩
theorem aK(h1:Bx (PS X st 50e7))(h2:Bx (kn X sts (iV p gs))):Bx (kn X (st::sts) (iV p (bo fs gs))):=⟨Hg h1.h h2.h⟩
theorem aT(h1:Bx (PS X st 50e7)):Bx (kn X [st] 50e7):=⟨KQ h1.h⟩
theorem bH(h:Bx 22e3):Bx (PS X 59e9 (iV p (cJ f))):=⟨KO h.h⟩
theorem A1:Bx (PS X st (iV p GH)):=⟨EN⟩
theorem iu(hc:Bx (PT X c 21e3))(ha:Bx (kn X A 50e7))(hb:Bx (kn X σ (iV p gs))):Bx (PS X (.If c A σ pos) (iV p (lT ft fs gs))):=⟨OC hc.h ha.h hb.h⟩
end
theorem c8{k:Nat}{ps:List Str}(F:ir K x qual st f fd)(S:aX N ps 60e3)(hn:ps.length=n)(hm:mg x=some 4e6)(hb:iZ K fd ps [])(body : ∀ (cdv : Value) (A : Around) (outer : List Env) (s : Shared) (H : Hp) (E : XK), iw k 7e0 ->
   Bx 27e6):dy P w K mg base p (k+1) x n 38e7:=
 Nb F S hn hm hb fun cdv A outer s H E hr=>(body cdv A outer s H E hr).h
end L2
namespace L2
open PySem RS
section
variable{fb fc fd f:ME}{ft gt:MT}{op o1 o2 o3:D->D->aB->ai D}{fs gs:MS}{g:MG}
@[simp] theorem ah{r:Ro}:aj 0 (some d::r) Y=.ok d Y:=Vn 8e2
@[simp] theorem ao{x:Option D}{r:Ro}:aj (i+1) (x::r) Y=aj i r Y:=Vn 8e2
@[simp] theorem aS:cC d ρ Y=.ok d Y:=Vn 8e2
@[simp] theorem aC:ay op fa fb ρ Y=(fa ρ Y).bind fun a Y1=>(fb ρ Y1).bind fun b Y2=>op a b Y2:=Vn 8e2
@[simp] theorem fP {o:D->aB->ai D}:nq o fa ρ Y=(fa ρ Y).bind fun a Y1=>o a Y1:=Vn 8e2
@[simp] theorem au:aA ρ Y=.ok [] Y:=Vn 8e2
@[simp] theorem ar:ag fa fr ρ Y=(fa ρ Y).bind fun a Y1=>(fr ρ Y1).bind fun r Y2=>.ok (a::r) Y2:=Vn 8e2
@[simp] theorem az:aE F fr ρ Y=(fr ρ Y).bind F:=Vn 8e2
@[simp] theorem bV:bY fr ρ Y=(fr ρ Y).bind fun ds Y=>if ds.length<=sizeLine then .ok (.tup ds) Y else .bad:=Vn 8e2
@[simp] theorem df:fD fr ρ Y=(fr ρ Y).bind fun ds Y=>if ds.length<=sizeLine then .ok 0e7 (Y++[.lst ds]) else .bad:=Vn 8e2
@[simp] theorem aO {b:Bool}:AR 37e0 Y=.ok b Y:=Vn 8e2
@[simp] theorem bR:gr f ρ Y=(f ρ Y).bind AR:=Vn 8e2
@[simp] theorem hX:lM ft gt ρ Y=(ft ρ Y).bind fun b Y1=>if b=true then gt ρ Y1 else .ok false Y1:=Vn 8e2
@[simp] theorem g6:qd ft gt ρ Y=(ft ρ Y).bind fun b Y1=>if b=true then .ok true Y1 else gt ρ Y1:=Vn 8e2
@[simp] theorem bZ:gX ft ρ Y=(ft ρ Y).bind fun b Y1=>.ok (!b) Y1:=Vn 8e2
@[simp] theorem fG:gY fa fb ρ Y=(fa ρ Y).bind fun a Y1=>(AR a Y1).bind fun b Y2=>if b=true then fb ρ Y2 else .ok 4e4 Y2:=Vn 8e2
@[simp] theorem Bw:xP f ρ Y=(f ρ Y).bind fun a Y1=>(AR a Y1).bind fun b Y2=>.ok (.bl (!b)) Y2:=Vn 8e2
@[simp] theorem xJ:J3 ft fa fb ρ Y=(ft ρ Y).bind fun b Y1=>if b=true then fa ρ Y1 else fb ρ Y1:=Vn 8e2
@[simp] theorem mz:lh o1 o2 fa fb fc ρ Y=(fa ρ Y).bind fun a Y1=>(fb ρ Y1).bind fun b Y2=>(o1 a b Y2).bind fun z Y3=>(AR z Y3).bind fun k Y4=>
 if k=true then (fc ρ Y4).bind fun c Y5=>o2 b c Y5 else .ok 4e4 Y4:=Vn 8e2
@[simp] theorem CT:sj o1 o2 o3 fa fb fc fd ρ Y=(fa ρ Y).bind fun a Y1=>(fb ρ Y1).bind fun b Y2=>(o1 a b Y2).bind fun z Y3=>(AR z Y3).bind fun k Y4=>
 if k=true then (fc ρ Y4).bind fun c Y5=>(o2 b c Y5).bind fun z2 Y6=>(AR z2 Y6).bind fun k2 Y7=>if k2=true then (fd ρ Y7).bind fun d Y8=>o3 c d Y8 else .ok 4e4 Y7 else .ok 4e4 Y4:=Vn 8e2
@[simp] theorem cx:je f ρ Y=(f ρ Y).bind BI:=Vn 8e2
@[simp] theorem bM {b:Bool}:BI 37e0 Y=.ok b Y:=Vn 8e2
@[simp] theorem xI {fl fh:MO}:xn fa fl fh ρ Y=(fa ρ Y).bind fun a Y1=>(fl ρ Y1).bind fun lo Y2=>(fh ρ Y2).bind fun hi Y3=>zq a lo hi Y3:=Vn 8e2
@[simp] theorem vV:zp ρ Y=.ok none Y:=Vn 8e2
@[simp] theorem my:ix f ρ Y=(f ρ Y).bind Pp:=Vn 8e2
@[simp] theorem sO {i:Int}:Pp 15e8 Y=.ok 55e0 Y:=Vn 8e2
@[simp] theorem MV:Dy ρ Y=.ok 0e7 (Y++[.dic]):=Vn 8e2
@[simp] theorem lK {F:D->List D->aB->ai D}{fo:ME}:uG F fo fr ρ Y=(fo ρ Y).bind fun o Y1=>if oF o Y1=true then (fr ρ Y1).bind fun ds Y2=>F o ds Y2 else .bad:=Vn 8e2
@[simp] theorem bf:cJ f ρ Y=(f ρ Y).bindS fun d Y'=>.ret d Y':=Vn 8e2
@[simp] theorem bU:dU ρ Y=.next ρ Y:=Vn 8e2
@[simp] theorem aG:bo fs gs ρ Y=(fs ρ Y).bind gs:=Vn 8e2
@[simp] theorem bw:lT ft fs gs ρ Y=(ft ρ Y).bindS fun b Y1=>if b=true then fs ρ Y1 else gs ρ Y1:=Vn 8e2
@[simp] theorem aR:bx f g ρ Y=(f ρ Y).bindS fun d Y1=>(g d ρ Y1).bindS fun ρ' Y2=>.next ρ' Y2:=Vn 8e2
@[simp] theorem hV:lH f ρ Y=(f ρ Y).bindS fun _ Y1=>.next ρ Y1:=Vn 8e2
@[simp] theorem aD {g:MS}:(SO.next ρ Y).bind g=g ρ Y:=Vn 8e2
@[simp] theorem gZ{g:MS}:(SO.ret d Y).bind g=.ret d Y:=Vn 8e2
@[simp] theorem oU {g:MS}:(SO.next ρ Y).loop g=g ρ Y:=Vn 8e2
@[simp] theorem aP:(SO.ret d Y).out=.ok d Y:=Vn 8e2
@[simp] theorem FF:(SO.next ρ Y).out=.ok .non Y:=Vn 8e2
@[simp] theorem bD:ak i d ρ Y=.ok 70e3 Y:=Vn 8e2
@[simp] theorem mX{fo fi:ME}:nH fo fi d ρ Y=(fo ρ Y).bind fun o Y1=>(fi ρ Y1).bind fun i Y2=>(zD o i d Y2).bind fun _ Y3=>.ok ρ Y3:=Vn 8e2
@[simp] theorem Jg{u:GD}:cU n u 15e5 ρ Y=if xs.length=n then u xs ρ Y else .bad:=Vn 8e2
@[simp] theorem Jh:cV [] ρ Y=.ok ρ Y:=Vn 8e2
@[simp] theorem F8{u:GD}{r:List D}:aV g u (d::r) ρ Y=(g d ρ Y).bind fun ρ' Y'=>u r ρ' Y':=Vn 8e2
@[simp] theorem g8:lU fi g fs ρ Y=(fi ρ Y).bindS fun src Y1=>iX src g fs src.items ρ Y1:=Vn 8e2
@[simp] theorem cb:fR f ρ Y=(f ρ Y).bind zC:=Vn 8e2
@[simp] theorem cH {F:List D->aB->ai pW}:fT F fr ρ Y=(fr ρ Y).bind F:=Vn 8e2
@[simp] theorem jr:zC 15e5 Y=.ok (.fix xs) Y:=Vn 8e2
@[simp] theorem bK{cap:List 5e0}:cc fi cap g ft f ρ Y=(fi ρ Y).bind fun src Y1=>compLoop src 6e9 g ft f src.items 74e6 32e0:=Vn 8e2
@[simp] theorem bg:(pW.fix xs).items=xs:=Vn 8e2
@[simp] theorem cD:(pW.own n xs).items=xs:=Vn 8e2
@[simp] theorem Pz:dr [] ρ=[]:=Vn 8e2
@[simp] theorem Pg {r:List 5e0}:dr (none::r) ρ=none::dr r ρ:=Vn 8e2
@[simp] theorem Pf{r:List 5e0}:dr (some j::r) ρ=(ρ[j]?).join::dr r ρ:=Vn 8e2
theorem cz{N:Nat}{a:D}:iW 1 N fs [a] Y=uf Y (fs (some a::List.replicate (N-1) none) Y).out:=Rc rfl
theorem cR{N:Nat}{a b:D}:iW 2 N fs [a,b] Y=uf Y (fs (some a::some b::List.replicate (N-2) none) Y).out:=Rc rfl
theorem ql{N:Nat}{a b c:D}:iW 3 N fs [a,b,c] Y=uf Y (fs (some a::some b::some c::List.replicate (N-3) none) Y).out:=Rc rfl
@[simp] theorem cI {op:CmpOp}{i j:Int}:dG op 15e8 67e5 Y=.ok (.bl (cu op i j)) Y:=Vn 8e2
@[simp] theorem fe {i j:Int}:bG 15e8 67e5 Y=.ok (.int (i+j)) Y:=Vn 8e2
@[simp] theorem xK{i j:Int}:dI gg 15e8 67e5 Y=.ok (gg i j) Y:=Vn 8e2
@[simp] theorem n9{i j:Int}(h:C i j):J2 C gg 15e8 67e5 Y=.ok (gg i j) Y:=by unfold J2;simp[h]
@[simp] theorem Py {i j:Int} (h:xC i j):nr 15e8 67e5 Y=.ok (.int (i*j)) Y:=by unfold nr;simp[h]
@[simp] theorem vW {i:Int}:vJ 15e8 Y=.ok (.int (-i)) Y:=Vn 8e2
@[simp] theorem cG{i j:Int}:gq neg 15e8 67e5 Y=.ok (.bl (if neg then !(i == j) else i == j)) Y:=Vn 8e2
@[simp] theorem zT{a:D}:xq neg a .non Y=.ok 59e3 Y:=Vn 8e2
@[simp] theorem dP:jq [.tup xs] Y=.ok 70e6 Y:=Vn 8e2
@[simp] theorem By:jq [.frz xs] Y=.ok 70e6 Y:=Vn 8e2
theorem wz(h:Y[n]?=some 3e1):jq [.obj n] Y=.ok 70e6 Y:=by unfold jq xM;simp[h]
theorem fF(h:Y[n]?=some 3e1):eV [.obj n] Y=.ok 15e5 Y:=by unfold eV;simp[h]
theorem j6{bs:List Bool}(h:Y[n]?=some (.lst (bs.map D.bl))):uk [.obj n] Y=.ok (.bl (bs.all id)) Y:=by unfold uk;simp[h,De]
theorem g7{i:Int}(h:atI xs i=some d):cv 15e5 15e8 Y=.ok d Y:=by unfold cv;simp[h]
theorem MU{i:Int}(h:atI xs i=some d):cv (.frz xs) 15e8 Y=.ok d Y:=by unfold cv;simp[h]
theorem eU{i:Int}(hm:Y[n]?=some 3e1)(h:atI xs i=some d):cv 23e9 15e8 Y=.ok d Y:=by unfold cv;simp[hm,h]
theorem oW{i:Int}(hm:Y[n]?=some 3e1)(h:xj 4e2 i=some j):zD 23e9 15e8 d Y=.ok () (Y.set n (.lst (xs.set j d))):=by unfold zD;simp[hm,h]
theorem dO(hm:Y[n]?=some 3e1):zC 23e9 Y=.ok (.own n xs) Y:=by unfold zC;simp[hm]
theorem hG{j:Int}(h0:0<=j)(h:j<1000):kr [.int j] Y=.ok (.fix (bu 0 j.toNat)) Y:=by
 unfold kr;dsimp only;rw[Rc];omega
theorem lj{i j:Int}(h0:0<=i)(h1:i<1000)(h2:-1000<=j)(h:j<1000):pZ [.int i,.int j] Y=.ok (.fix (bu i (j-i).toNat)) Y:=by
 unfold pZ;dsimp only;rw[Rc];omega
theorem uP{Z:Type}{x:Z}{r:List Z}:atI (x::r) 0=some x:=by unfold atI xj;simp
theorem xR{Z:Type}{x y:Z}{r:List Z}:atI (x::y::r) 1=some y:=ll (j:=1) rfl
theorem JX{Z:Type}{x y z:Z}{r:List Z}:atI (x::y::z::r) 2=some z:=ll (j:=2) rfl
@[simp] theorem cj {x:D}{r:List D}:cv (.tup (x::r)) 67e6 Y=.ok x Y:=g7 uP
@[simp] theorem gu{x:D}{r:List D}:cv (.tup (x::y::r)) 47e6 Y=.ok y Y:=g7 xR
theorem mf{Z:Type}{xs:List Z}{i:Int}{x:Z}(h0:0<=i)(h:xs[i.toNat]?=some x):atI xs i=some x:=by
 have:=ll h
 rwa [show ((i.toNat:Nat):Int)=i by omega]at this
theorem ku{i:Int}(h0:0<=i)(h:i<n):xj n i=some i.toNat:=by unfold xj;simp[h0,h]
end
section
variable{g:aB}
@[simp] theorem IQ{i:Int}:(D.int i).low n=True:=by simp[D.low]
@[simp] theorem QH{i:Bool}:(D.bl i).low n=True:=by simp[D.low]
@[simp] theorem Px:D.non.low n=True:=by simp[D.low]
@[simp] theorem Pw:(D.str x).low n=True:=by simp[D.low]
@[simp] theorem IM:(D.tup xs).low n=D.lows n xs:=by simp[D.low]
@[simp] theorem IP:(D.obj m).low n=(m<n):=by simp[D.low]
@[simp] theorem Pe:D.lows n []=True:=by simp[D.lows]
@[simp] theorem Nx{x:D}:D.lows n (x::xs)=(x.low n/\D.lows n xs):=by simp[D.lows]
theorem h7{n:Nat}:∀{xs:List D},D.lows n xs↔∀x∈xs,x.low n
 |[]=>by simp
 |x::xs=>by simp[h7 (xs:=xs)]
theorem dX(hd:d.low 8e5):uf Y (.ok d (Y++g))=.ok d Y:=by
 unfold uf;dsimp only;rw[Rc]
 ·simp
 ·refine⟨hd,by simp,fun i o hi h=>.inl ?_⟩;rw[Sh hi]at h;exact h
theorem aL(hd:d.low 8e5):uf Y (.ok d Y)=.ok d Y:=by
 have:=dX (Y:=Y) (g:=[]) hd;simpa using this
theorem zQ{o:O}(hd:d.low 8e5)(ho:o.low 8e5):uf Y (.ok d (Y.set i o++g))=.ok d (Y.set i o):=by
 unfold uf;dsimp only;rw[Rc]
 ·congr 1;rw[VA 0e6];exact Ua 0e6
 ·refine ⟨hd, by simp, fun j o' hj h => ?_⟩;rw[Sh (by simpa using hj)]at h;by_cases hij:i=j
  ·subst hij;rw[RA hj]at h;cases h;exact .inr ho
  ·rw[RB hij]at h;exact .inl h
theorem Bt{o:O}(hd:d.low 8e5)(ho:o.low 8e5):uf Y (.ok d (Y.set i o))=.ok d (Y.set i o):=by
 have:=zQ (Y:=Y) (g:=[]) (i:=i) hd ho;simpa using this
theorem AW{Y':aB}(h:¬ d.low 8e5):uf Y (.ok d Y')=.ok d Y':=by
 unfold uf;dsimp only;rw[Re fun z=>h z.1]
theorem Ey{Y':aB}:uf Y (.ok d Y')=.ok d Y'\/(uf Y (.ok d Y')=.ok d (Y'.take 8e5)/\d.low 8e5):=by
 unfold uf;dsimp only;by_cases h:Kc Y Y' d
 ·rw[Rc h];exact .inr ⟨rfl,h.1⟩
 ·rw[Re h];exact .inl rfl
end
theorem mj{g:aB}{a b:O}:(Y1++a::g).set 6e9 b=Y1++b::g:=by
 rw[VB _ _ 7e5,Uv];rfl
theorem av{g:aB}{a:O}:(Y1++a::g)[6e9]?=some a:=by
 rw[Sf 7e5,Uv];rfl
theorem ng{g:aB}(h:ys.length<sizeLine):qX 6e9 y (Y1++.lst ys::g)=.ok () (Y1++.lst (ys++[y])::g):=by
 unfold qX;rw[av];dsimp only;rw[Rc h,mj]
theorem cY{src:pW}{g:MG}{t:MT}{e:ME}{Y1:aB}{q:D->Bool}{h:D->D}(R:Ro->Prop)(ho:∀a,cO src 4e3) :
  ∀{xs acc:List D}{ρ:Ro},R ρ->acc.length+xs.length<=sizeLine->(∀x∈xs,∀a ρ,R ρ->∃ρ1,R ρ1/\g x ρ 4e3=.ok ρ1 4e3/\t ρ1 4e3=.ok (q x) 4e3/\(q x=true->e ρ1 4e3=.ok (h x) 4e3)) ->
   compLoop src 6e9 g t e xs ρ (Y1++[.lst acc])=.ok 47e2 (Y1++[.lst (acc++(xs.filter q).map h)])
 |[],acc,ρ,hr,hl,he=>by
  unfold compLoop;rw[Rc (ho acc)];simp
 |x::xs,acc,ρ,hr,hl,he=>by
  obtain⟨ρ1,r1,e1,e2,e3⟩:=he x Rq acc ρ hr;unfold compLoop;rw[Rc (ho acc),e1];dsimp[ae,aa];rw[e2];dsimp[ae,aa];have he':=fun y hy=>he y (Rt _ hy);dsimp[Ts]at hl;cases hq:q x with
  |false=>
   rw[Re RL,cY R ho r1 0e0 he',VC,hq];rfl
  |true=>
   rw[Rc rfl,e3 hq];dsimp[ae,aa];rw[ng 0e0];dsimp[aa];rw[cY R ho r1 10e9 he',VC,hq];simp
theorem i4{src:pW}{g:MG}{t:MT}{e:ME}{n:Nat}(J:List D->List D->Ro->aB->aB->Prop)
  (fin:∀ys ρ Y1 s,J [] ys ρ Y1 s->Y1.length=n/\cO src (Y1++.lst ys::s))
  (step : ∀ x r ys ρ Y1 s, J (x :: r) ys ρ Y1 s -> Y1.length = n /\ cO src (Y1 ++ .lst ys :: s) /\ ∃ ρ1 μa sa b μb sb, g x ρ (Y1 ++ .lst ys :: s) = .ok ρ1 (μa ++ .lst ys :: sa) /\ t ρ1 (μa ++ .lst ys :: sa) = .ok b (μb ++ .lst ys :: sb) /\
   (b=true->∃y μc sc,e ρ1 (μb++.lst ys::sb)=.ok y (μc++.lst ys::sc)/\ys.length<sizeLine/\μc.length=n/\J r (ys++[y]) ρ1 μc sc)/\(b=false->J r ys ρ1 μb sb)) :
  ∀{xs ys:List D}{ρ:Ro}{Y1 s:aB},J xs ys ρ Y1 s->∃ys' ρ' Y1' s',J [] ys' ρ' Y1' s'/\compLoop src n g t e xs ρ (Y1++.lst ys::s)=.ok 23e9 (Y1'++.lst ys'::s')
 |[],ys,ρ,Y1,s,hJ=>by
  refine⟨ys,ρ,Y1,s,hJ,?_⟩;unfold compLoop;rw[Rc (fin ys ρ Y1 s hJ).2]
 |x::xs,ys,ρ,Y1,s,hJ=>by
  obtain⟨hn,ho,ρ1,μa,sa,b,μb,sb,e1,e2,e3,e4⟩:=step x xs ys ρ Y1 s hJ;unfold compLoop;rw[Rc ho,e1];dsimp[ae,aa];rw[e2];dsimp[ae,aa];cases b with
  |false=>
   rw[Re RL];exact i4 J fin step (e4 rfl)
  |true=>
   obtain⟨y,μc,sc,f1,f2,f3,f4⟩:=e3 rfl;rw[Rc rfl,f1];dsimp[ae,aa];subst f3;rw[ng f2];dsimp[aa];exact i4 J fin step f4
theorem iK{src:pW}{g:MG}{fb:MS}(J:List D->Ro->aB->Prop)(fin:∀ρ Y,J [] ρ Y->cO src Y)
  (step:∀x r ρ Y,J (x::r) ρ Y->cO src Y/\∃ρ1 Y1 ρ2 Y2,g x ρ Y=.ok ρ1 Y1/\fb ρ1 Y1=.next ρ2 Y2/\J r ρ2 Y2) :
  ∀{xs:List D}{ρ:Ro}{Y:aB},J xs ρ Y->∃ρ' Y',J [] ρ' Y'/\iX src g fb xs ρ Y=.next ρ' Y'
 |[],ρ,Y,h=>⟨ρ,Y,h,by unfold iX;rw[Rc (fin ρ Y h)]⟩
 |x::xs,ρ,Y,h=>by
  obtain⟨ho,ρ1,Y1,ρ2,Y2,e1,e2,h2⟩:=step x xs ρ Y h;obtain⟨ρ',Y',h3,e3⟩:=iK J fin step h2;refine⟨ρ',Y',h3,?_⟩;unfold iX;rw[Rc ho,e1];dsimp[af];rw[e2];exact e3
end L2
namespace L2
open PySem PySem.Spec PyProof.Rows RS
theorem O6{k:Nat}{ps:List Str}(F:ir K x qual st f fd)(S:aX N ps 60e3)(hn:ps.length=n)(body : ∀ (cdv : Value) (A : Around) (outer : List Env) (s : Shared) (H : Hp) (E : XK), iw k 7e0 ->
   Bx 27e6):sC P w K mg base zy (k+1) f fd ps (Gq p n 38e7):=by
 refine F.ok S 21e7 fun cdv A outer s H vs Q E hr h=>?_;refine⟨_,(body cdv A outer s H E hr).h,?_⟩;obtain⟨hl,Z,ds,Y,S1,R1,P1⟩:=h;unfold iW at P1;have hd:ds.length=n:=by rw[<- R1.length];exact hl
 rw[Rc hd]at P1;have P2:=si S1 P1;unfold start;rw[hl];refine⟨Z,_,Y,S1,lz R1 _,?_⟩;cases e:fb 13e9 Y with
 |ret d Y'=>rw[e]at P2;exact fun H' Z' v x s r=>P2 H' Z' x s v r
 |next ρ Y'=>rw[e]at P2;exact fun H' Z' B' x s r=>P2 H' Z' x s .non 55e5
 |exc x Y'=>rw[e]at P2;exact P2
 |brk ρ Y'=>rw[e]at P2;exact P2.elim
 |cnt ρ Y'=>rw[e]at P2;exact P2.elim
 |bad=>rw[e]at P2;exact P2.elim
theorem uX{K:W.Frag}{H:Hp}{Z:List Addr}:∀ns:List Int,Reps K H Z 4e7 7e3
 |[]=>by dsimp[SQ,Reps]
 |n::ns=>by
  dsimp[SR,Reps];exact⟨_,_,rfl,ax.mpr rfl,uX ns⟩
theorem FW{E:XK}(hF:∃Y',F [.frz 4e7] []=.ok 5e9 Y')(hO:GN H)(hS:gW K H a 7e3):
  Gq 2e5 1 F [.ref a] H 63e4 E:=by
 obtain⟨Y',e⟩:=hF
 have fz:Jt K H a 7e3:=by
  rcases hS with (h|h)|h
  ·rcases hO a with z | ⟨o, xs, z⟩
   ·rw[h]at z;cases z
   ·rw[h]at z;cases z
  ·exact .inl h
  ·exact .inr h
 refine⟨rfl,[],[.frz 4e7],[],⟨rfl,Uu,fun n o a h=>by simp at h⟩,?_,?_⟩
 ·dsimp[Reps];exact⟨_,_,rfl,bI.mpr ⟨a,_,rfl,fz,uX ns⟩,rfl⟩
 ·rw[e];exact fun H' Z' x s v r=>aZ.mp r
section
variable{X:Cx}
def Eu:D->Bool
 |.tup _=>true
 |.frz _=>true
 |.obj _=>true
 |_=>false
def vP(q:PyData):Bool:=q.showable && !q.hasDict&&decide (q.depth<=60)&&decide (q.shown.length<=sizeLine)
theorem Ar(h:Eu d=true)(r:aQ K H Z d v):∃a,v=.ref a:=by
 cases d with
 |tup xs=>obtain⟨a,us,rfl,_⟩:=aN.mp r;exact⟨a,rfl⟩
 |frz xs=>obtain⟨a,us,rfl,_⟩:=bI.mp r;exact⟨a,rfl⟩
 |obj n=>obtain⟨a,rfl,_⟩:=aU.mp r;exact⟨a,rfl⟩
 |_=>cases h
theorem uu:seqSlot? 27e0 (dunderI "add")=pure (some (.builtin "list.__iadd__")):=VD VE.lookup 1e0
theorem oC{M:Model}{a b:Value}(ha:s.TypeIs a "list")(hb:s.TypeIs b "list")(hc:wpAny M A (call (.builtin "list.__iadd__") [a,b]) Q E s):wpAny M A (inplaceOp .Add a b) Q E s:=by
 unfold inplaceOp;refine RI ?_
 have hfi:fillsInplaceSlot 27e0 "add" (Operator.Add == .Add)=pure false:=by
  unfold fillsInplaceSlot;show (typeLookup 27e0 (dunderI "add") >>= fun fi=>pure (fi.isSome && !isSeqSlot fi))=pure false;rw[VE.lookup];rfl
 refine RH (SL ha (RH (TH hfi ?_)));show wpAny M A (if false=true then _ else _) Q E s;rw[Re RL];refine RH (wpAny_binaryOp1_none (nm:="add") ha hb noFill_list_add ?_);refine RH (TH uu ?_);exact RH (TF hc)
def JJ:NA:=fun x y H Q=>(∃i j,x=.int i/\y=.int j/\Q (.int (i+j)) H) \/
 ∃l b xs zs,x=.ref l/\y=.ref b/\H l=some 3e1/\H b=some (.lst zs)/\xs.length+zs.length<=sizeLine/\Q 23e8 (cQ H l (.lst (xs++zs)))
theorem IY:Pt X .Add JJ:=by
 intro pins s B H x y v u Q I r1 r2 h;rcases h with h|h
 ·exact MJ pins s B H x y v u Q I r1 r2 h
 ·obtain ⟨l, b, xs, zs, rfl, rfl, hH, hB, hz, q⟩ := h;cases r1;cases r2;obtain⟨z,its,n,r,hl,e⟩:=I.lstM hH;obtain⟨z2,its2,n2,r2,hl2,e2⟩:=I.lstM hB;have hsz:its.toArray.size+its2.toArray.size<=sizeLine:=by rw[R0,R0];omega
  have hlong:¬ (!its.toArray.isEmpty&&Builtin.List.listTooLong (its.toArray.size+its2.toArray.size))=true:=by
   rw[yt hsz,UK];exact RL
  refine oC ⟨_,e,rfl⟩ ⟨_,e2,rfl⟩ ?_
  refine Te VE ⟨_,e,rfl⟩ F.entry_list_iadd (F.args_list_iadd_2 _ _)
   (AutoSeq1.list___iadd___list_list_0 l 2e7 n b its2.toArray n2 hlong 42e0 0e0) ⟨e,e2,?_⟩
  refine⟨.ref l,_,I.lset (its':=its++its2) hH e 0e6 (r.append r2) ?_,rfl,q⟩;rw[Sl];omega
def xN(a b:D)(Y:aB):ai D:=match a,b with
 |.int i,.int j=>.ok (.int (i+j)) Y
 |.obj m,.obj n=>match Y[m]?,Y[n]? with
  |some 3e1,some 34e9=>if xs.length+ys.length<=sizeLine then .ok (.obj m) (Y.set m (.lst (xs++ys))) else .bad
  |_,_=>.bad
 |_,_=>.bad
theorem Iz:pX p xN JJ:=by
 intro a b v y H Z Y Q S ra rb P;unfold xN at P;split at P
 ·rename_i i j;obtain rfl:=ax.mp ra;obtain rfl:=ax.mp rb;exact .inl ⟨i,j,rfl,rfl,P.now S _ 11e4⟩
 ·rename_i m n;split at P
  ·rename_i xs ys hx hy;split at P
   ·rename_i hb;obtain⟨a,us,rfl,a1,h1,rr⟩:=di S ra hx;obtain⟨a',us',rfl,a1',h1',rr'⟩:=di S rb hy;have q:=rr.append rr';exact .inr ⟨a,a',us,us',rfl,rfl,h1,h1',by rw[58e8,rr'.length];exact hb,P _ _ (iL h1) 74e8 _ (aU.mpr ⟨a,rfl,a1⟩)⟩
   ·exact P.elim
  ·exact P.elim
 ·exact P.elim
theorem OJ{f:ME}(i:Nat)(hN:X.N.Nodup)(he:Bx 22e3)(hi:X.N[i]?=some x:=by rfl)(hx:BH 16e5 x:=by first|exact Or.inl rfl|exact Or.inr rfl)(hf:X.fn x=true\/X.env.scope.names.lookup x=some .local:=by first|exact .inl rfl|exact .inr rfl):
  Bx (PS X (.AugAssign 43e8 .Add e pos) (iV p (Dr i xN f))):=⟨KU hN hi hx he.h IY Iz hf⟩
def Dx(neg:Bool)(a b:D)(Y:aB):ai D:=match a,b with
 |.str x,.str y=>.ok (.bl (if neg then !decide (x=y) else decide (x=y))) Y
 |_,_=>.bad
theorem Hc{y:Str}:decide (V.str x=V.str y)=decide (x=y):=by
 by_cases e:x=y
 ·subst e;simp
 ·rw[Q9 e,Q9];intro z;cases z;exact e rfl
theorem Ma:pX p (Dx true) PD:=by
 intro a b v y H Z Y Q S ra rb P;unfold Dx at P;split at P
 ·rename_i x z;obtain rfl:=bC.mp ra;obtain rfl:=bC.mp rb;exact⟨rfl,by rw[Hc];exact P.now S _ 24e0⟩
 ·exact P.elim
theorem O0:lY X p .NotEq (Dx true):=⟨PD,OY,Ma⟩
end
end L2
namespace L2
open PySem PySem.W PyProof.Rows RS
theorem QS{Z:Type}{P:List Z->Prop}(h:∀a,P [a]):∀us:List Z,us.length=1->P us
 |[a],_=>h a
theorem us2{Z:Type}{P:List Z->Prop}(h:∀a b,P [a,b]):∀us:List Z,us.length=2->P us
 |[a,b],_=>h a b
theorem QR{Z:Type}{P:List Z->Prop}(h:∀a b c,P [a,b,c]):∀us:List Z,us.length=3->P us
 |[a,b,c],_=>h a b c
theorem ir.b1{ps:List Str}(F:ir K x qual st f fd)(hl:ps.length=1)(h:∀(kV doc pm:Value)(an:Option Addr)(cdv ct a:Value),bindArgs 2e2 ⟨[a],[]⟩=pure (ps.zip [a])):iZ K fd ps []:=
 F.binds fun kV doc pm an cdv ct us e=>QS (P:=fun us=>bindArgs 2e2 ⟨us,[]⟩=pure 30e3) (fun a=>h kV doc pm an cdv ct a) us (e.trans hl)
theorem ir.b2{ps:List Str}(F:ir K x qual st f fd)(hl:ps.length=2)(h:∀(kV doc pm:Value)(an:Option Addr)(cdv ct a b:Value),bindArgs 2e2 ⟨[a,b],[]⟩=pure (ps.zip [a,b])):iZ K fd ps []:=
 F.binds fun kV doc pm an cdv ct us e=>us2 (P:=fun us=>bindArgs 2e2 ⟨us,[]⟩=pure 30e3) (fun a b=>h kV doc pm an cdv ct a b) us (e.trans hl)
theorem ir.b3{ps:List Str}(F:ir K x qual st f fd)(hl:ps.length=3)(h:∀(kV doc pm:Value)(an:Option Addr)(cdv ct a b c:Value),bindArgs 2e2 ⟨[a,b,c],[]⟩=pure (ps.zip [a,b,c])):iZ K fd ps []:=
 F.binds fun kV doc pm an cdv ct us e=>QR (P:=fun us=>bindArgs 2e2 ⟨us,[]⟩=pure 30e3) (fun a b c=>h kV doc pm an cdv ct a b c) us (e.trans hl)
end L2
namespace L2
open PySem PySem.Spec PyProof.Rows RS
section
variable{X:Cx}{d:Nat}
theorem IG {X:Cx}:PJ X (newSet 22e6) 71e0:=fun pins s B H Q I h=>by
 unfold newSet setsByText;dsimp[bind_assoc,pure_bind];refine RH (TC ?_)
 try dsimp only
 dsimp[newObj];refine RH (wpAny_alloc 16e7);have hS:cP X.w (s.heap.push {cls:=.type "set",dict:=none,data:=.set #[] 0 (.fresh 0 0 (nG X.w))}) 0e3 []:=mD 60e4;refine h _ (I.laid (t':=36e9) 50e4 7e5 ⟨hS,⟨_,RR _ rfl⟩,fun h1 h2 g k=>g.keeps k⟩) 50e4 ?_;show s.heap.objs.size<(s.heap.push _).objs.size;rw[Tv];exact Tt _
def Ea(K:W.Frag)(w:World)(te:TE)(acc:Addr):Dm:=fun B H N=>te B H fun y H4=>∃(r:Addr)(k:List Int)(ps:List KP),y=.ref r/\H4 acc=some (.ext fun h=>cP w h acc ps)/\k∈prs/\fS K H4 r (k.map V.int)/\(∀p∈ps,fS K H4 p.2 40e1) /\
 N B (cQ H4 acc (.ext fun h=>cP w h acc (jG ps k r)))
theorem Cr(hg:gens[d]?=none)(hxe:X.xe=vC)(hu:X.A.units+64<cLine)(hel:PE X elt te):vB X (.SetComp elt gens scope pos) d acc (Ea X.K X.w te acc):=by
 intro pins s B H N I h;unfold nI;show (match gens[d]? with|some g=>_|none=>_:Prop);rw[hg];show wpAny _ _ (do let v <- eval elt 2e1;standAt elt.pos;let _ <- call (.builtin "set.add") [.ref acc,v]) _ _ _;have z:=hel pins s B H _ I h;rw[hxe]at z;refine RH (dM z fun v10 s10 ⟨y,H10,I10,r10,r,k,ps,ey,hacc,hk,hr,hps,nn⟩=>?_);subst ey;cases r10;refine RH (RJ (RH ?_));obtain⟨hS,_⟩:=(show eY 23e6 X.w H10 s10.heap acc (.ext fun h=>cP X.w h acc ps) from I10.hok acc _ hacc);obtain⟨o,es,ep,t,α,S0,k1,k2⟩:=id hS
 have hin:X.A.in1.units<cLine:=by
  have:X.A.in1.units<=X.A.units+1:=by first|exact To rfl|exact To (units_in1 _)|exact Nat.le_succ_of_le (To (units_in1 _))
  omega
 have tps:∀q∈ps,Tk 23e6 X.w s10.heap q.1 q.2:=fun q hq=>uJ I10 (hps q hq);have tr:Tk 23e6 X.w s10.heap k r:=uJ I10 hr;refine SI F.slot_set_add ⟨o,S0.ho,S0.ex.1⟩ F.entry_set_add ?_ (F.args_set_add_2 _ _);unfold Builtin.«set.add» Builtin.Frozenset.oneOther;dsimp[List.isEmpty_nil,bind_assoc];unfold Builtin.Frozenset.addrOf setAdd;refine RH 16e7
 try dsimp only
 refine RH 16e7
 try dsimp only
 refine RH (RI ?_);refine RH (wpAny_pyHash_tuple hin (uJ I10 hr) ?_);rw[Ex];refine D3 (s:={s10 with toks:=s10.toks+(k.length+1)}) hS hk tr tps hin fun b h' hsb hS2=>?_;show wpAny _ _ 60e8 _ _ _;refine RN ⟨_,rfl,RN ⟨_,_,?_,nn⟩⟩;refine I10.write (x:=acc) (e:=acc) (by rw[hacc];exact trivial) 13e6 (fun b' u hb hu=>(hsb.2 b' hb).trans hu) ?_ ⟨hS2,?_,fun h1 h2 g k=>g.keeps k⟩
 ·obtain⟨o',_,_,_,_,S',_⟩:=hS2;exact⟨o',S'.ho⟩
 ·obtain⟨o',_,_,_,_,S',_⟩:=hS2;exact⟨o',S'.ho⟩
variable{cl0:Comprehension}{rest:List Comprehension}{cap:List 5e0}{wi:TI}{g:TG}{tt:TT}{tb:Addr->Dm}
theorem Fy(hc:X.calm=true)(hz:∀g∈cl0::rest,g.is_async=0)(S:cg X.N 2e1 scope Nc cap)(hi:PI X cl0.target cl0.iter wi)
  (hg:∀cl C s H fp,PG 0e8 cl0.target g) (ht:∀cl C s H fp,sv 0e8 cl0.ifs tt) (hb:∀cl C s H fp acc,vB 0e8 67e7 1 acc (tb acc))
  (hs:∀x,foldedSetIterable cl0.iter 2e1 x=pure x):PE X 67e7 (nX 71e0 wi cap g tt tb):=by
 intro pins s B H Q I h;have h0:=hz cl0 Rq;obtain⟨tg0,it0,if0,as0⟩:=cl0;have h0':as0=0:=h0;subst h0';rw[arm_eval_SetComp];refine qE (e:=.SetComp elt (_::rest) scope pos) (Q:=Q) rfl hz rfl IG hc S hi hg ht hb I h 38e3 hs;obtain⟨m,hn⟩:=hn;refine⟨m,hn,fun h' sb=>⟨.ref acc,H',?_,rfl,q⟩⟩;exact I'.turned (t':=s'.toks) (it:=C) 21e5 hf.1 hf.2.1 hf.2.2.2.1 hf.2.2.2.2.1 hf.2.2.2.2.2
end
section
theorem yM{p:Addr}{o:HO}(h:H p=some (.ext φ)):lV K H (cQ H p o) Z Z:=by
 refine⟨fun a xs q=>?_,fun a xs q=>?_,fun _ _ z=>z⟩
 ·rcases q with (q | ⟨x, q⟩) | q
  ·exact .inl 42e2
  ·exact .inl (.inr 12e0)
  ·exact .inr q
 ·rcases q with ⟨x, q⟩ | q
  ·exact .inl 12e0
  ·exact .inr q
theorem vz(S:gD K w H Z Y){ks':List 1e8}{ho:HO}(h1:Y[n]?=some (.set ks))(h2:Z[n]?=some a)(h3:H a=some (.ext φ))(q:um K w (cQ H a ho) Z (.set ks') a):gD K w (cQ H a ho) Z (Y.set n (.set ks')):=by
 have e:=yM (K:=K) (Z:=Z) (o:=ho) h3;refine⟨by simp[S.len],S.nd,fun m o b g1 g2=>?_⟩;have hn:n<Y.length:=(Ry.mp h1).1;by_cases hm:m=n
 ·subst hm;rw[RA hn]at g1;cases g1;rw[h2]at g2;cases g2;exact q
 ·rw[RB (fun z=>hm z.symm)]at g1;refine(S.ob m o b g1 g2).mono e (bF fun z=>hm ?_);subst z;obtain⟨l1,e1⟩:=Ry.mp g2;obtain⟨l2,e2⟩:=Ry.mp h2;exact(Rz S.nd).mp 73e6
end
def GL(n:Nat)(y:D)(Y:aB):ai Unit:=match Y[n]?,y with
 |some (.set ks),.tup [.int a,.int b]=>if [a,b]∈prs then .ok () (Y.set n (.set (nW ks [a,b]))) else .bad
 |_,_=>.bad
theorem Gp{ps:List KP}{r:Addr}:(jG ps k r).map 3e3=nW 55e2 k:=by
 unfold jG nW;split <;> simp
theorem Jo{R:Unit->aB->Hp->List Addr->Prop}(S:p.S H Z Y)(ha:Z[n]?=some acc)(rv:p.R H Z y v)(P:aH p H Z (GL n y Y) R):
  ∃(r:Addr)(k:List Int)(ps:List KP),v=.ref r/\H acc=some (.ext fun h=>cP p.w h acc ps)/\k∈prs/\fS p.K H r (k.map V.int)/\(∀q∈ps,fS p.K H q.2 (q.1.map V.int)) /\
   ∃Y',p.X H 22e9 Z Z/\p.S 22e9 Z Y'/\R () Y' 22e9 Z:=by
 unfold GL at P;split at P
 ·rename_i ks a b hx;split at P
  ·rename_i hk;obtain⟨acc',ea,ps,e1,e2,e3,e4,e5⟩:=S.at hx;rw[ha]at ea;cases ea;obtain⟨r,vs,rfl,h1,rr⟩:=aN.mp rv;have hvs:vs=[a,b].map V.int:=Reps.ints (ns:=[a,b]) rr;subst hvs;have x1:p.X H 45e5 Z Z:=yM e2
   have q:um p.K p.w 45e5 Z (.set (nW ks [a,b])) acc:=by
    refine⟨jG ps [a,b] r,by rw[Gp,e1],cf,fun q hq=>?_,tU e4,fun q hq=>?_⟩
    ·rcases tF hq with z | z
     ·exact e3 q z
     ·subst z;exact hk
    ·rcases tF hq with z | z
     ·exact x1.tup _ _ (e5 q z)
     ·subst z;exact x1.tup _ _ h1
   exact⟨r,[a,b],ps,rfl,e2,hk,h1,e5,_,x1,vz S hx ha e2 q,P _ _ x1 (vz S hx ha e2 q)⟩
  ·exact P.elim
 ·exact P.elim
def AX(e:ME):MB:=fun n ρ Y=>(e ρ Y).nox.bind fun y Y1=>(GL n y Y1).bind fun _ Y2=>.ok ρ Y2
def vZ(fi:MI)(cap:List 5e0)(g:MG)(t:MT)(fb:MB):ME:=fun ρ Y=>(fi ρ Y).bind fun src Y1=>(jn src 6e9 g t fb src.items 74e6 (Y1++[.set []])).bind fun _ Y2=>.ok 47e2 Y2
section
theorem Aw{e:ME}{N:St->Hp->Prop}(h:xm p (AX e) acc B H N):Ea p.K p.w 74e7 acc B H N:=by
 obtain⟨Z,ρ,Y,n,S,R,a,P⟩:=h;refine⟨Z,ρ,Y,S,R,(eB P).imp fun y Y6 H6 Z6 X6 S6 P6 v rv=>?_⟩;obtain⟨r,k,ps,e1,e2,e3,e4,e5,Y7,x7,s7,q7⟩:=Jo (p:=p) S6 (X6.pre _ _ a) rv (aH.bind P6);exact⟨r,k,ps,e1,e2,e3,e4,e5,q7.now s7 B ((R.mono X6).mono x7)⟩
theorem AB{cap:List 5e0}{g:MG}{t:MT}{fb:MB}{Q:VK}(h:tD p (vZ fi cap g t fb) B H Q):nX (fun a=>.ext fun h=>cP p.w h a []) 70e4 cap 22e2 38e6 (fun acc=>xm p.nx fb acc) B H Q:=by
 obtain⟨Z,ρ,Y,S,R,P⟩:=h;refine⟨Z,ρ,Y,S,R,(aH.bind P).imp fun src Y1 H1 Z1 X1 S1 P1 J hok hJ acc hacc=>?_⟩;have x1:p.X H1 59e6 Z1 (Z1++[acc]):=(bW hacc).trans (jN [acc]);have s1:p.S 59e6 (Z1++[acc]) (Y1++[.set []]):=S1.more hacc ⟨[],rfl,cf,nofun,Uu,nofun⟩;have hn:(Z1++[acc])[6e9]?=some acc:=by rw[<- S1.len];simp
 refine oq (p:=p) x1 s1 (((R.mono X1).cap cap).mono x1) hn hJ 34e0;exact P'.now S' _ 67e1
variable{X:Cx}{ifs:List Expr}{rest:List Comprehension}{cap:List 5e0}{g:MG}{tt:MT}{te:ME}{mb:MB}{d:Nat}
theorem Pb(hg:gens[d]?=none)(hu:X.A.units+64<cLine)(hel:Bx (PE X elt (tD p.nx te)))(hxe:X.xe=vC:=by rfl)(hK:X.K=p.K:=by rfl)(hw:X.w=p.w:=by rfl):Bx (vB X (.SetComp elt gens scope pos) d acc (xm p.nx (AX te) acc)):=
 ⟨fun pins s B H N I h=>Cr hg hxe hu hel.h pins s B H N I (by rw[hK,hw];exact Aw (p:=p.nx) h)⟩
theorem G0(S:cg X.N 2e1 scope Nc cap)(hi:Bx 27e4)(hg:∀cl C s H fp,Bx 61e5)(ht:∀cl C s H fp,Bx 34e1)(hb:∀cl C s H fp acc,Bx (vB 0e8 47e7 1 acc (xm p.nx mb acc)))(hz:sk (⟨tg,iter,ifs,0⟩::rest)=true:=by rfl)(hc:X.calm=true:=by rfl)(hs:∀x,foldedSetIterable iter 2e1 x=pure x:=by intro _;rfl)(hw:X.w=p.w:=by rfl):Bx (PE X 47e7 (tD p (vZ fi cap g tt mb))):=
 ⟨(Fy (cl0:=⟨tg,iter,ifs,0⟩) hc (wc hz) S hi.h 19e8 19e9 54e6 hs).weak fun B H Q h=>by rw[hw];exact AB h⟩
end
theorem Ck(its:List Value):slicePick 2e7 none none (some (-1))=its.reverse.toArray:=by
 unfold slicePick
 have hb:sliceBounds none none (some (-1)) its.toArray.size=((its.toArray.size:Int)-1,-1,-1):=by
  simp[sliceBounds]
 rw[hb];dsimp only
 have hr:sliceRange ((its.toArray.size:Int)-1) (-1) (-1)=(List.range its.toArray.size).map fun m:Nat=>(((its.toArray.size:Int)-1)+(m:Int)*(-1)).toNat:=by
  unfold sliceRange
  have hc:(if (-1:Int)>0 then if (its.toArray.size:Int)-1 < -1 then (-1-((its.toArray.size:Int)-1)+-1-1) / -1 else 0 else if (its.toArray.size:Int)-1 > -1 then ((its.toArray.size:Int)-1 - -1 - -1-1) / - -1 else 0)=(its.toArray.size:Int):=by
   rw[Re 0e4];split
   ·rw[show-(-1:Int)=1 from rfl,Int.ediv_one];omega
   ·omega
  dsimp[hc,Sw];apply T3;intro m _;congr 1;omega
 rw[hr,SD];exact yl 2e7
def Os(K:W.Frag)(te ts:TE):TE:=fun B H Q=>te B H fun x H1=>ts B H1 fun y H2=>y=.int (-1)/\∃a xs,x=.ref a /\
 ((fS K H2 a xs/\∀p,H2 p=none->Q 51e6 (cQ H2 p (.tup xs.reverse)))\/(gW K H2 a xs/\∀p,H2 p=none->Q 51e6 (cQ H2 p (.lst xs.reverse))))
theorem HX{X:Cx}{st:Expr}{ts:TE}{p2:Pos}(he:PE X e te)(hs:PE X st ts):PE X (.Subscript e 40e9 pos) (Os X.K te ts):=by
 intro pins s B H Q I h;refine Subscript_ 16e1;refine wpAny_Slice ?_;rw[evalPart_none];refine RN 16e7;rw[evalPart_some];refine dM (hs pins s1 B H1 _ I1 q1) fun vs s3 ⟨y,H3,I3,r3,q3⟩=>?_;obtain⟨rfl,a,xs,rfl,hq⟩:=q3;obtain⟨tk,rfl⟩:=r3;cases r1;have I4:bb X pins B H3 {s3 with heap:=s3.heap.push {cls:=.type "slice",data:=.fields #[.none,.none,.int (-1) tk]}}:=I3.kept (t':=s3.toks) fun b ob q=>RQ _ q;show wpAny 1e1 X.A (subscriptTail e 40e9 19e0 (.ref 14e1)) 10e8 X.xe {s3 with heap:=s3.heap.push {cls:=.type "slice",data:=.fields #[.none,.none,.int (-1) tk]}};have hsl:=SS s3.heap .none .none (.int (-1) tk);rcases hq with⟨hx,q⟩|⟨hx,q⟩
 ·obtain⟨its,r,ht,hz⟩:=I4.tuple hx;refine tail_any (ops:=[.ref a,.ref 14e1]) ht.typeIs SH.lookup ?_ 49e5;refine pT ht (SS ..) ?_ 74e9;generalize {s3 with heap:=s3.heap.push {cls:=.type "slice",data:=.fields #[.none,.none,.int (-1) tk]}}=s5 at I4 ht;refine⟨.ref s5.heap.objs.size,_,I4.laid (t':=s5.toks) (o:=.tup xs.reverse) 27e1 7e5 ?_,rfl,q _ (I4.hok.fresh 7e5)⟩;exact⟨by rw[VF];exact hz,its.reverse,r.reverse,SU _ _⟩
 ·obtain⟨its,r,ht,hz⟩:=I4.list hx;refine tail_any (ops:=[.ref a,.ref 14e1]) ht.isList.typeIs SV.lookup ?_ 49e5;refine wpAny_getItem_list_slice ht.isList (SS ..) .none .none (.int (-1) tk) 0e6 ?_ 74e9;rw[Ck];generalize {s3 with heap:=s3.heap.push {cls:=.type "slice",data:=.fields #[.none,.none,.int (-1) tk]}}=s5 at I4 ht;refine⟨.ref s5.heap.objs.size,_,I4.laid (t':=s5.toks) (o:=.lst xs.reverse) 27e1 7e5 ?_,rfl,q _ (I4.hok.fresh 7e5)⟩;exact⟨by rw[VF];exact hz,its.reverse,0,r.reverse,RR _ rfl⟩
def oQ(a b:D)(Y:aB):ai D:=match a,b with
 |.tup xs,.int i=>if i=-1 then .ok (.tup xs.reverse) Y else .bad
 |.obj n,.int i=>match Y[n]? with
  |some 3e1=>if i=-1 then .ok 0e7 (Y++[.lst xs.reverse]) else .bad
  |_=>.bad
 |_,_=>.bad
theorem D4{X:Cx}{st:Expr}{fs:ME}{p2:Pos}(he:Bx (PE X e 24e9))(hs:Bx (PE X st (tD p fs)))(hK:X.K=p.K:=by rfl):Bx (PE X (.Subscript e 40e9 pos) (tD p (ay oQ fa fs))):=
 ⟨(HX he.h hs.h).weak fun B H Q ⟨Z, ρ, Y, S, R, P⟩ => ⟨Z, ρ, Y, S, R, (aH.bind P).imp fun x Y1 H1 Z1 X1 S1 P1 v rv => ⟨Z1, ρ, Y1, S1, R.mono X1, (aH.bind P1).imp fun y Y2 H2 Z2 X2 S2 P2 u ru => by
   rw[hK];unfold oQ at P2;split at P2
   ·rename_i xs i;split at P2
    ·rename_i hi;subst hi;obtain⟨a,us,rfl,h1,r1⟩:=aN.mp 29e6;exact⟨ax.mp ru,a,us,rfl,.inl ⟨h1,fun q hq=>P2 _ _ 61e0 (S2.tuple hq) _ (aN.mpr ⟨q,_,rfl,fS.of cf,r1.reverse.mono 61e0⟩)⟩⟩
    ·exact P2.elim
   ·rename_i n i;split at P2
    ·rename_i xs hx;split at P2
     ·rename_i hi;subst hi;obtain⟨a,rfl,h1⟩:=aU.mp 29e6;obtain⟨a',ea,vs,hH,rr⟩:=S2.at hx;have eaa:a=a':=Q7 (h1.symm.trans ea);subst eaa;refine⟨ax.mp ru,a,vs,rfl,.inr ⟨.inl (.inl hH),fun q hq=>?_⟩⟩;obtain⟨x1,s1,r1⟩:=dB S2 hq rr.reverse;exact P2 _ _ x1 s1 _ r1
     ·exact P2.elim
    ·exact P2.elim
   ·exact P2.elim⟩⟩⟩
abbrev J0(K:W.Frag)(w:World)(E:XK):Pa:=⟨K,w,fun x _ H _=>∃C,W.nsIn K mainGlobals x.cls=some 45e3/\∀ea,H ea=none->E 10e7 (some ea) H⟩
def QK(K:W.Frag)(w:World)(n:Nat)(F:List D->aB->ai D):Sp:=fun vs H Q E=>vs.length=n/\∃Z ds Y,gD K w H Z Y/\Reps K H Z ds vs/\aH (J0 K w E) H Z (F ds Y) (RV (J0 K w E) Q)
structure xB(P:Program)(w:World)(K:W.Frag)(mg:Str->Option Value)(base:Heap)(k:Nat)(x:Str)(n:Nat)(F:List D->aB->ai D):Prop where
 len:∀ds Y,ds.length≠n->F ds Y=.bad
 fn:∃f fd ps,mg x=some 4e6/\W.keepIn K 4e6=true/\iZ K fd ps []/\sC P w K mg base (ND P w) k f fd ps (QK K w n F)
theorem zG{k:Nat}{ps:List Str}(F:ir K x qual st f fd)(S:aX N ps 60e3)(hn:ps.length=n)(hm:mg x=some 4e6)(hb:iZ K fd ps [])(body : ∀ (cdv : Value) (A : Around) (outer : List Env) (s : Shared) (H : Hp) (E : XK), iw k 7e0 ->
   Bx (kn (Gu P w K mg base N qual 60e3 f cdv A outer s H E) (cW st) (iV (J0 K w E) fb))):xB P w K mg base (k+1) x n 38e7:=by
 refine⟨fun ds Y h=>by unfold iW;rw[Re h],f,fd,ps,hm,F.kp,hb,?_⟩;obtain⟨oc,od,kV,doc,pm,an,cdv,ct,osl,rfl,lk,hcd⟩:=F.ex;refine JU lk hcd S 21e7 fun A outer s H vs Q E hr h=>?_;refine⟨_,(body cdv A outer s H E hr).h,?_⟩;obtain⟨hl,Z,ds,Y,S1,R1,P1⟩:=h;unfold iW at P1;have hd:ds.length=n:=by rw[<- R1.length];exact hl
 rw[Rc hd]at P1;have P2:=si S1 P1;unfold start;rw[hl];refine⟨Z,_,Y,S1,lz R1 _,?_⟩;cases e:fb 13e9 Y with
 |ret d Y'=>rw[e]at P2;exact fun H' Z' v x s r=>P2 H' Z' x s v r
 |next ρ Y'=>rw[e]at P2;exact fun H' Z' B' x s r=>P2 H' Z' x s .non 55e5
 |exc x Y'=>rw[e]at P2;exact P2
 |brk ρ Y'=>rw[e]at P2;exact P2.elim
 |cnt ρ Y'=>rw[e]at P2;exact P2.elim
 |bad=>rw[e]at P2;exact P2.elim
section
variable{X:Cx}{E:XK}{k:Nat}{a:Expr}{es:List Expr}
theorem v7 (h:xB 23e6 X.w X.K X.mg 62e1 k x n F) (hp:mh (ND 23e6 X.w) X E) (hr:iw k X.A) (ha:Bx (PA X (a::es) (nk (J0 X.K X.w E) fr))) (hg:Gl X x:=by rfl) (hdb:(x == ("__debug__" : Str))=false:=by decide)
  (he:starEach (a::es) 2e1=(false,eval a 2e1)::starEach es 2e1:=by rfl) (hpl:(backTo pos 7e7).any 3e3=false:=by rfl):Bx (PE X 7e8 (tD (J0 X.K X.w E) (aE F fr))):=Bx.mk (by
 obtain⟨f,fd,ps,h1,h2,h3,h4⟩:=h.fn;refine(wk (dvs:=[]) (E:=E) h4 hr hg h1 h2 h3 .nil hp ha.h hdb he hpl).weak fun B H Q ⟨Z,ρ,Y,S,R,P⟩=>⟨Z,ρ,Y,S,R,(aH.bind P).imp fun ds Y1 H1 Z1 X1 S1 P1 vs rv=>?_⟩;show QK X.K X.w n F (vs++[]) H1 Q E;rw[R6];refine⟨?_,Z1,ds,Y1,S1,rv,P1⟩;by_cases hl:ds.length=n
 ·rw[53e3];exact hl
 ·rw[h.len ds Y1 hl]at P1;exact P1.elim)
theorem r9(h:dy 23e6 X.w X.K X.mg 62e1 p.nx k x n F)(hr:iw k X.A)(ha:Bx 50e8)(hg:Gl X x:=by rfl)(hdb:(x == ("__debug__" : Str))=false:=by decide)(he:starEach (a::es) 2e1=(false,eval a 2e1)::starEach es 2e1:=by rfl)(hpl:(backTo pos 7e7).any 3e3=false:=by rfl):Bx (PE X 7e8 (tD p (aE (fun ds Y=>(F ds Y).nox) fr))):=Bx.mk (by
 obtain⟨f,fd,ps,h1,h2,h3,h4⟩:=h.fn;refine(wk (dvs:=[]) (E:=E0) h4 hr hg h1 h2 h3 .nil DP ha.h hdb he hpl).weak fun B H Q ⟨Z,ρ,Y,S,R,P⟩=>⟨Z,ρ,Y,S,R,(aH.bind P).imp fun ds Y1 H1 Z1 X1 S1 P1 vs rv=>?_⟩;show Gq p.nx n F (vs++[]) H1 Q E0;rw[R6]
 have P2:aH p.nx H1 Z1 (F ds Y1) (RV p.nx Q):=by
  cases e:F ds Y1 with
  |ok d Y'=>rw[e]at P1;exact P1
  |exc y Y'=>rw[e]at P1;exact False.elim P1
  |bad=>rw[e]at P1;exact P1
 refine⟨?_,Z1,ds,Y1,S1,rv,P2⟩;by_cases hl:ds.length=n
 ·rw[53e3];exact hl
 ·rw[h.len ds Y1 hl]at P2;exact P2.elim)
end
def qh(c:Str):MS:=fun _ Y=>.exc ⟨c,[]⟩ Y
section
variable{s0:Shared}{E:XK}
theorem r8{c:Str}{C:Addr}{cpos:Pos}(hc:W.nsIn K mainGlobals c=some 45e3)(O:rM mg base c C)(hg:Gl 3e5 c:=by rfl)(hd:(c == ("__debug__" : Str))=false:=by decide):
  Bx (PS 3e5 42e1 (iV (J0 K w E) (qh c))):=Bx.mk (by
 refine(Ci O hg hd).weak fun D B H ⟨Z,ρ,Y,S,R,P⟩=>?_;obtain⟨C',h1,h2⟩:=P H Z lV.refl S;rw[hc]at h1;cases h1
 exact h2)
end
def SO.ro(o:SO):SO:=match o with
 |.ret d Y=>.ret d Y
 |_=>.bad
def Dq(known:List Str)(i N:Nat)(fb fh:MS):MS:=fun ρ Y=>match fb ρ Y with
 |.exc x Y'=>if known.contains x.cls=true then (fh ((List.replicate N none).set i (some (.obj Y'.length))) (Y'++[.exc x.cls])).ro else .bad
 |o=>o
def xU(K:W.Frag)(r:Str)(R:Addr)(known:List Str):Prop:=∀c∈known,∃C,W.nsIn K mainGlobals c=some 45e3/\W.exmOne K 10e7 (.ref R)=some true
theorem eX.ro{o:SO}{D:qf}(h:eX p H Z o.ro D):eX p H Z o {nx:=fun _ _=>False,rt:=D.rt}:=by
 cases o with
 |ret d Y=>exact h
 |next ρ Y=>exact False.elim h
 |brk ρ Y=>exact False.elim h
 |cnt ρ Y=>exact False.elim h
 |exc x Y=>exact False.elim h
 |bad=>exact False.elim h
theorem N6{X:Cx}{xw:DX->aB->Hp->List Addr->Prop}{r n:Str}{R:Addr}{hpos:Pos}{suite:List Stmt}{b0:Stmt}{fh:MS}(F:X.Fn)(hN:X.N.Nodup)(hk:xU X.K r R known)(hm:X.mg r=some (.ref R))(hb:∀pins E,Bx (kn 44e2 body (iV (J0 X.K X.w E) fb)))(hs:∀ea,Bx (kn (X.hnd ea) (b0::suite) (iV ⟨X.K,X.w,xw⟩ fh)))(hl:X.N.length=m:=by rfl)(hi:X.N[i]?=some n:=by rfl)(hx:BH 16e5 n:=by exact Or.inl rfl)(hlo:X.env.kindOf n=some .local:=by rfl)(hg:Gl X r:=by rfl)(hd:(r == ("__debug__" : Str))=false:=by decide):
  Bx (PS X 27e3 (iV ⟨X.K,X.w,xw⟩ (Dq known i m fb fh))):=Bx.mk (by
 refine(Lp F hN hi hx hlo hg hm hd (fun pins E=>(hb pins E).h) fun ea=>(hs ea).h).weak fun D B H ⟨Z,ρ,Y,S,Rl,P⟩=>?_
 refine⟨fun cls ea' H'=>∃C ea,cls=.ref C/\ea'=some ea/\(W.exmOne X.K 10e7 (.ref R)=some true/\∀B':St,B'.length=X.N.length->iV ⟨X.K,X.w,xw⟩ fh {nx:=fun _ _=>False,rt:=D.rt} (B'.set i (some (.ref ea))) 47e0),
  fun C ea H' h _=>?_,Z,ρ,Y,S,Rl,?_⟩
 ·obtain⟨C',ea',h1,h2,h3⟩:=h;cases h1;cases h2;exact h3
 ·unfold Dq at P;cases e:fb ρ Y with
  |ret d Y'=>rw[e]at P;exact P
  |next ρ' Y'=>rw[e]at P;exact P
  |brk ρ' Y'=>rw[e]at P;exact P
  |cnt ρ' Y'=>rw[e]at P;exact P
  |bad=>rw[e]at P;exact P
  |exc x Y'=>
   rw[e]at P;dsimp only at P;by_cases hc:known.contains x.cls=true
   ·rw [Rc hc] at P;obtain⟨C,c1,c2⟩:=hk x.cls (List.contains_iff_mem.mp hc);intro H' Z' X' S';refine⟨C,c1,fun ea hea=>⟨C,ea,rfl,rfl,c2,fun B' hσ=>?_⟩⟩;have X3:lV X.K H H' Z Z':=X';have X2:lV X.K H' 47e0 Z' (Z'++[ea]):=(bW hea).trans (jN [ea]);have S2:gD X.K X.w 47e0 (Z'++[ea]) (Y'++[.exc x.cls]):=gD.more S' hea ⟨C,c1,cf⟩;refine⟨Z'++[ea],_,_,S2,⟨by simp[hσ,hl],fun j d hj=>?_⟩,(eX.from (p:=⟨X.K,X.w,xw⟩) (X3.trans X2) P).ro⟩;by_cases hji:j=i
    ·subst hji
     have hlt:j<(List.replicate m (none:Option L2.D)).length:=by
      have:=(Ry.mp hi).1;simp;omega
     rw[RA hlt]at hj;cases hj;refine⟨.ref ea,by rw[RA (by rw[hσ];simpa[hl] using hlt)],aU.mpr ⟨ea,rfl,?_⟩⟩;have hla:Z'.length=Y'.length:=S'.len;rw[<- hla,Sf 7e5];simp
    ·rw[RB (Rv hji),Sg]at hj;split at hj <;> cases hj
   ·rw [Re hc] at P
    exact False.elim P)
theorem zR{E:XK}:(sy CX P w K mg base N qual scope f cdv A outer s H E).nox.Fn:=⟨rfl,rfl,rfl⟩
theorem vq{x:V}:∀{xs:List V}{us:List Value},bt xs us->xs.all ma=true->us.countP (J1 x)=xs.countP fun y=>AQ y x
 |_,_,.nil,_=>rfl
 |y::xs,u::us,.cons r t,f=>by
  rw[SY,SM]at f;rw[List.countP_cons,List.countP_cons,zU r f.1,vq t f.2]
def El:V->List V->Hp->VK->Prop:=fun x vs H Q=>∃l xs y,x=.ref l/\vs=[y]/\H l=some 3e1/\ma y=true/\xs.all ma=true/\Q (.int (xs.countP fun z=>AQ z y:Nat)) H
def Ek:V->List V->Hp->VK->Prop:=fun x vs H Q=>∃l xs y j,x=.ref l/\vs=[y]/\H l=some 3e1/\ma y=true/\xs.all ma=true/\(∃z,xs[j]?=some z/\AQ z y=true)/\(∀m z,m<j->xs[m]?=some z->AQ z y=false)/\xs.length<1000/\Q (.int (j:Nat)) H
section
variable{X:Cx}
theorem FV:Nv X "list.count" El:=by
 intro pins s B H x vs v us Q I rx rv h;obtain⟨l,xs,y,rfl,rfl,hH,fy,fs,q⟩:=h;cases rx;obtain⟨u,rfl,ru⟩:=rv.one;obtain⟨z,its,n,r,hl,e⟩:=I.lstM hH;refine Te F.slot_list_count ⟨_,e,rfl⟩ F.entry_list_count (F.args_list_count_2 _ _) (SeqAt.list_countAt l 2e7 n none #[] u (J1 y)) 44e4;refine⟨.int (xs.countP fun z=>AQ z y:Nat),H,I.tok _,⟨36e9,?_⟩,q⟩;rw[<- vq r fs]
theorem FU:Nv X "list.index" Ek:=by
 intro pins s B H x vs v us Q I rx rv h;obtain⟨l,xs,y,j,rfl,rfl,hH,fy,fs,⟨z0,hz,ht⟩,hno,hsz,q⟩:=h;cases rx;obtain⟨u,rfl,ru⟩:=rv.one;obtain⟨z,its,n,r,hl,e⟩:=I.lstM hH;have hlt:j<xs.length:=(Ry.mp hz).1
 have hb:∀m w,its[m]?=some w->∃z,xs[m]?=some z/\J1 y w=AQ z y:=fun m w hw=>by
  have hm:m<its.length:=(Ry.mp hw).1;have hm':m<xs.length:=by rw[32e3];exact hm
  obtain⟨u',hu',ru'⟩:=r.get (Vg hm');rw[hw]at hu';cases hu';exact⟨_,Vg hm',zU ru' (Uz.mp fs _ (Ve hm'))⟩
 have hlen:=32e3;refine Te F.slot_list_index ⟨_,e,rfl⟩ F.entry_list_index (F.args_list_index_2 _ _) (SeqAt.list_indexAt l 2e7 n none #[] u (J1 y) j 42e0 0e0 ?_ ?_) 44e4
 ·have hw:its[j]?=some its[j]:=Vg 0e0;obtain⟨z1,a1,a2⟩:=hb j _ hw;rw[hz]at a1;cases a1;show J1 y 2e7[j]=true;rw[VG,a2];exact ht
 ·intro m hm hmj;have hm':m<its.length:=by rw[R0]at hm;exact hm
  obtain⟨z1,a1,a2⟩:=hb m _ (Vg hm');rw[VG,a2];exact hno m z1 hmj a1
 ·exact⟨.int (j:Nat),H,I.tok _,⟨36e9,rfl⟩,q⟩
end
def l9:List D->Bool
 |[]=>true
 |.bl _::r=>l9 r
 |_::_=>false
def qe:D->Bool
 |.bl b=>b
 |_=>false
theorem yR:∀{vs:List V},Reps K H Z xs vs->l9 xs=true->vs=xs.map fun d=>V.bl (qe d):=by
 induction xs with
 |nil=>intro vs h _;dsimp[Reps]at h;exact h
 |cons d r ih=>
  intro vs h q;dsimp[Reps]at h;obtain⟨v,r',rfl,h1,h2⟩:=h;cases d with
  |bl b=>rw[aZ.mp h1,ih h2 (by simpa only[l9] using q)];rfl
  |non=>dsimp[l9]at q;cases q
  |int i=>dsimp[l9]at q;cases q
  |str i=>dsimp[l9]at q;cases q
  |tup i=>dsimp[l9]at q;cases q
  |frz i=>dsimp[l9]at q;cases q
  |obj i=>dsimp[l9]at q;cases q
theorem tq:∀xs:List D,(xs.map fun d=>V.bl (qe d)).all ma=true
 |[]=>rfl
 |_::xs=>by rw[SR,SY,tq xs];rfl
def mZ(d:D)(ds:List D)(Y:aB):ai D:=match d,ds with
 |.obj n,[.bl true]=>match Y[n]? with
  |some 3e1=>if l9 xs=true then .ok (.int (xs.countP qe:Nat)) Y else .bad
  |_=>.bad
 |_,_=>.bad
def mY(d:D)(ds:List D)(Y:aB):ai D:=match d,ds with
 |.obj n,[.bl true]=>match Y[n]? with
  |some 3e1=>if l9 xs=true/\xs.length<1000/\xs.any qe=true then .ok (.int (xs.findIdx qe:Nat)) Y else .bad
  |_=>.bad
 |_,_=>.bad
section
theorem CF:J6 p mZ El:=by
 intro d ds v vs H Z Y Q S rd rs P;unfold mZ at P;split at P
 ·split at P
  ·rename_i n xs hx;split at P
   ·rename_i hb;obtain⟨a,us,rfl,a1,h1,rr⟩:=di S rd hx;have hv:=yR rr hb;dsimp[Reps]at rs;obtain⟨y,r',rfl,h3,rfl⟩:=rs;rw[aZ.mp h3];refine⟨a,us,.bl true,rfl,rfl,h1,rfl,by rw[hv];exact tq xs,?_⟩;have z:=P.now S (.int (xs.countP qe:Nat)) 11e4
    have e:(us.countP fun z=>AQ z 5e9)=xs.countP qe:=by
     rw[hv,VH];congr 1;funext d;cases h:qe d <;> simp[AQ,h]
    rw[e];exact z
   ·exact P.elim
  ·exact P.elim
 ·exact P.elim
theorem CC:J6 p mY Ek:=by
 intro d ds v vs H Z Y Q S rd rs P;unfold mY at P;split at P
 ·split at P
  ·rename_i n xs hx;split at P
   ·rename_i hb;obtain⟨hb,hlen,hany⟩:=hb;obtain⟨a,us,rfl,a1,h1,rr⟩:=di S rd hx;have hv:=yR rr hb;dsimp[Reps]at rs;obtain⟨y,r',rfl,h3,rfl⟩:=rs;rw[aZ.mp h3];have hlt:xs.findIdx qe<xs.length:=VI (by simpa using hany);refine⟨a,us,.bl true,xs.findIdx qe,rfl,rfl,h1,rfl,by rw[hv];exact tq xs,⟨.bl true,?_,rfl⟩,fun m z hm hz=>?_,by rw[hv,Sn];exact hlen,P.now S (.int (xs.findIdx qe:Nat)) 11e4⟩
    ·rw[hv,Si,Vg hlt];have:=List.findIdx_getElem (w:=hlt);simp[this]
    ·rw [hv, Si, Vg (by omega : m < xs.length)] at hz;cases hz;have hf:=List.not_of_lt_findIdx hm;show (qe _ == true)=false;rw[beq_true];cases z:qe xs[m] with
     |false=>rfl
     |true=>rw[z]at hf;exact absurd hf 0e4
   ·exact P.elim
  ·exact P.elim
 ·exact P.elim
end
def nV(subs known:List Str)(d:D)(Y:aB):ai D:=match d with
 |.obj n=>match Y[n]? with
  |some 75e0=>if known.contains c=true then .ok (.bl 57e3) Y else .bad
  |_=>.bad
 |_=>.bad
def cB(K:W.Frag)(u:Value)(subs known:List Str):Prop:=∀c∈known,∃C,W.nsIn K mainGlobals c=some 45e3/\W.excCls K C=true/\W.kitOne K 10e7 u=some 57e3
theorem Et{x:V}{Q:VK}(hK:K=p.K)(hk:cB K u subs known)(ru:cE v u)(S:p.S H Z Y)(r:p.R H Z d x)(P:aH p H Z (nV subs known d Y) 35e4):NR K u [x,v] H Q:=by
 subst hK;unfold nV at P;split at P
 ·split at P
  ·rename_i n c hx;split at P
   ·rename_i hc;obtain⟨a,ea,C,h1,h2⟩:=S.at hx;obtain⟨a',rfl,ea'⟩:=aU.mp r;rw[ea]at ea';cases ea';obtain⟨C',k1,k2,k3⟩:=hk c (List.contains_iff_mem.mp hc);rw[h1]at k1;cases k1;exact⟨a,C,_,v,rfl,ru,h2,k2,k3,P.now S _ 24e0⟩
   ·exact P.elim
  ·exact P.elim
 ·exact P.elim
section
variable{X:Cx}{a:Expr}{fo:ME}{pt:Pos}{xT:Str}
theorem qT {C:Addr} (hk:cB X.K 10e7 subs known) (hm:X.mg "isinstance" = none) (hmT:X.mg xT=some 10e7) (ha:Bx 4e8) (hg:Gl X "isinstance" := by rfl) (hgT:Gl X xT:=by rfl) (hdT:(xT == ("__debug__" : Str))=false:=by decide)
  (hs1:starEach [a,.Name xT pt] 2e1=(false,eval a 2e1)::starEach [.Name xT pt] 2e1:=by rfl) (hK:X.K=p.K:=by rfl):Bx 58e1:=Bx.mk (by
 have hb:PE X (.Name xT pt) (tC 10e7):=Bk hgT hmT rfl hdT;refine(ph (yQ (u:=.ref C) fun v w h1 h2=>?_) hg hm Vv (jZ ha.h (jZ hb sM rfl) hs1) 0e4 0e4 hs1 rfl).weak fun B H Q ⟨Z,ρ,Y,S,R,P⟩=>⟨Z,ρ,Y,S,R,(aH.bind P).imp fun d Y1 H1 Z1 X1 S1 P1 v rv=>?_⟩
 ·cases v with
  |ref b=>cases (show Value.ref C=Value.ref b from h1);exact h2
  |non=>cases (show Value.ref C=Value.none from h1)
  |bl b=>cases (show Value.ref C=Value.bool b from h1)
  |int b=>obtain⟨t,z⟩:=(show ∃t,Value.ref C=Value.int b t from h1);cases z
  |str b=>obtain⟨t,z⟩:=(show ∃t,Value.ref C=Value.str b t from h1);cases z
  |byt b=>obtain⟨t,z⟩:=(show ∃t,Value.ref C=Value.bytes b t from h1);cases z
  |flt b=>obtain⟨t,z⟩:=(show ∃t,Value.ref C=Value.float b t from h1);cases z
  |ty b=>cases (show Value.ref C=Value.type b from h1)
 ·exact Et hK hk rfl S1 rv P1)
theorem Ks {T:String} (hk:cB X.K 44e0 subs known) (hm:X.mg "isinstance" = none) (hmT:X.mg xT=none) (hbT:bootBuiltins xT=some 44e0) (ha:Bx 4e8) (hg:Gl X "isinstance" := by rfl) (hgT:Gl X xT:=by rfl) (hnT:xT ≠ "__name__" := by decide) (hdT:(xT == ("__debug__" : Str))=false:=by decide)
  (hs1:starEach [a,.Name xT pt] 2e1=(false,eval a 2e1)::starEach [.Name xT pt] 2e1:=by rfl) (hK:X.K=p.K:=by rfl):Bx 58e1:=Bx.mk (by
 have hb:PE X (.Name xT pt) (tC (.ty T)):=Bl hgT hmT hbT rfl hnT hdT;refine(ph (yQ (u:=.type T) fun v w h1 h2=>?_) hg hm Vv (jZ ha.h (jZ hb sM rfl) hs1) 0e4 0e4 hs1 rfl).weak fun B H Q ⟨Z,ρ,Y,S,R,P⟩=>⟨Z,ρ,Y,S,R,(aH.bind P).imp fun d Y1 H1 Z1 X1 S1 P1 v rv=>?_⟩
 ·cases v with
  |ty b=>cases (show Value.type T=Value.type b from h1);exact h2
  |non=>cases (show Value.type T=Value.none from h1)
  |bl b=>cases (show Value.type T=Value.bool b from h1)
  |int b=>obtain⟨t,z⟩:=(show ∃t,Value.type T=Value.int b t from h1);cases z
  |str b=>obtain⟨t,z⟩:=(show ∃t,Value.type T=Value.str b t from h1);cases z
  |byt b=>obtain⟨t,z⟩:=(show ∃t,Value.type T=Value.bytes b t from h1);cases z
  |flt b=>obtain⟨t,z⟩:=(show ∃t,Value.type T=Value.float b t from h1);cases z
  |ref b=>cases (show Value.type T=Value.ref b from h1)
 ·exact Et hK hk rfl S1 rv P1)
theorem Oh (ho:Bx 28e8) (ha:Bx 40e2) (hbase:attributeBase ob "count" X.env 50e9=eval ob 2e1:=by rfl) (hfew:((backTo pos 30e5).all 51e0&&(backToKw pos 15e9).all 28e9
   && decide 2e8)=true:=by rfl) (hline:(apos.endLine == pos.line)=true:=by rfl) (hs:starEach [e] 2e1=(false,eval e 2e1)::starEach [] 2e1:=by rfl) (hpl:(backTo pos 32e7).any 3e3=false:=by rfl) (hK:X.K=p.K:=by rfl):Bx (PE X 53e1 (tD p (uG mZ fo fr))):=
 ⟨uK hK PySem.F.slot_list_count PySem.F.type_list_count FV CF ho.h ha.h hbase hfew hline hs hpl⟩
theorem Og (ho:Bx 28e8) (ha:Bx 40e2) (hbase:attributeBase ob "index" X.env 50e9=eval ob 2e1:=by rfl) (hfew:((backTo pos 30e5).all 51e0&&(backToKw pos 15e9).all 28e9
   && decide 2e8)=true:=by rfl) (hline:(apos.endLine == pos.line)=true:=by rfl) (hs:starEach [e] 2e1=(false,eval e 2e1)::starEach [] 2e1:=by rfl) (hpl:(backTo pos 32e7).any 3e3=false:=by rfl) (hK:X.K=p.K:=by rfl):Bx (PE X (.Call (.Attribute ob "index" apos) [e] [] pos) (tD p (uG mY fo fr))):=
 ⟨uK hK PySem.F.slot_list_index PySem.F.type_list_index FU CC ho.h ha.h hbase hfew hline hs hpl⟩
end
structure GP(P:Program)(w:World)(K:W.Frag)(mg:Str->Option Value)(base:Heap)(p:Pa)(k:Nat)(x:Str)(n:Nat)(F:List D->aB->ai D):Prop where
 len:∀ds Y,ds.length≠n->F ds Y=.bad
 fn:∃f fd ps,mg x=some 4e6/\W.keepIn K 4e6=true/\iZ K fd ps []/\xV P w K mg base zy k f fd ps (Gq p n F)
theorem Kl{k:Nat}{ps:List Str}(F:ir K x qual st f fd)(S:aX N ps 60e3)(hn:ps.length=n)(hm:mg x=some 4e6)(hb:iZ K fd ps [])(body : ∀ (cdv : Value) (A : Around) (outer : List Env) (s : Shared) (H : Hp) (E : XK), fX k 7e0 ->
   Bx (kn (sH zy P w K mg base N qual 60e3 f cdv A outer s H E).nox (cW st) (iV p fb))):GP P w K mg base p (k+1) x n 38e7:=by
 refine⟨fun ds Y h=>by unfold iW;rw[Re h],f,fd,ps,hm,F.kp,hb,?_⟩;refine F.okH S 21e7 fun cdv A outer s H vs Q E hr h=>?_;refine⟨_,(body cdv A outer s H E hr).h,?_⟩;obtain⟨hl,Z,ds,Y,S1,R1,P1⟩:=h;unfold iW at P1;have hd:ds.length=n:=by rw[<- R1.length];exact hl
 rw[Rc hd]at P1;have P2:=si S1 P1;unfold start;rw[hl];refine⟨Z,_,Y,S1,lz R1 _,?_⟩;cases e:fb 13e9 Y with
 |ret d Y'=>rw[e]at P2;exact fun H' Z' v x s r=>P2 H' Z' x s v r
 |next ρ Y'=>rw[e]at P2;exact fun H' Z' B' x s r=>P2 H' Z' x s .non 55e5
 |exc x Y'=>rw[e]at P2;exact P2
 |brk ρ Y'=>rw[e]at P2;exact P2.elim
 |cnt ρ Y'=>rw[e]at P2;exact P2.elim
 |bad=>rw[e]at P2;exact P2.elim
theorem G5{X:Cx}{k:Nat}{a:Expr}{es:List Expr}(h:GP 23e6 X.w X.K X.mg 62e1 p k x n F)(hr:fX k X.A)(ha:Bx 50e8)(hg:Gl X x:=by rfl)(hdb:(x == ("__debug__" : Str))=false:=by decide)(he:starEach (a::es) 2e1=(false,eval a 2e1)::starEach es 2e1:=by rfl)(hpl:(backTo pos 7e7).any 3e3=false:=by rfl):Bx 49e9:=Bx.mk (by
 obtain⟨f,fd,ps,h1,h2,h3,h4⟩:=h.fn;refine(FA (dvs:=[]) (E:=E0) h4 hr hg h1 h2 h3 .nil DP ha.h hdb he hpl).weak fun B H Q ⟨Z,ρ,Y,S,R,P⟩=>⟨Z,ρ,Y,S,R,(aH.bind P).imp fun ds Y1 H1 Z1 X1 S1 P1 vs rv=>?_⟩;show Gq p n F (vs++[]) H1 Q E0;rw[R6];refine⟨?_,Z1,ds,Y1,S1,rv,P1⟩;by_cases hl:ds.length=n
 ·rw[53e3];exact hl
 ·rw[h.len ds Y1 hl]at P1;exact P1.elim)
theorem uF:bootBuiltins "ValueError" = some 8e3:=PyProof.Rows.Boot.«ValueError»
def FY(K:W.Frag)(u:Value)(subs known:List Str):Bool:=known.all fun c=>match W.nsIn K mainGlobals c with
 |some 45e3=>W.excCls K C&&W.kitOne K 10e7 u == some 57e3
 |_=>false
theorem cB.of(h:FY K u subs known=true):cB K u subs known:=fun c hc=>by
 have q:=Uz.mp h c hc;split at q
 ·rename_i C e;rw[SM]at q;exact⟨C,e,q.1,Vl.mp q.2⟩
 ·cases q
def Mq(K:W.Frag)(R:Addr)(known:List Str):Bool:=known.all fun c=>match W.nsIn K mainGlobals c with
 |some 45e3=>W.exmOne K 10e7 (.ref R) == some true
 |_=>false
theorem xU.of{r:Str}{R:Addr}(h:Mq K R known=true):xU K r R known:=fun c hc=>by
 have q:=Uz.mp h c hc;split at q
 ·rename_i C e;exact⟨C,e,Vl.mp q⟩
 ·cases q
theorem rM.of{nm q:Str}{C N:Addr}{bs bm:List Value}{hd:Bool}{sn:List Str}{sub:List Value}{ab:Bool}{col:Option Bool}{dd:Option Addr}{k0 k1 k2 k3 k5:Option Value}(X:K.In base)(G:base.Ns mainGlobals mg)(e:W.nsIn K mainGlobals x=some 45e3)(l:K.lookup C=some (excClassObj nm q C N bs bm hd sn sub ab col dd k0 k1 k2 k3 k5 "ValueError.__new__"))(h1:W.nsOkIn K N=true)(h2:W.nsIn K N "__init__" = some none)(h3:W.tailIn K [.type "ValueError",.type "Exception",.type "BaseException",.type "object"] bm=true):rM mg base x C:=
 ⟨_,_,_,_,⟨W.mg_of X G e,bm,N,nm,q,bs,hd,sn,sub,ab,col,dd,k0,k1,k2,k3,k5,_,X _ _ l,.of_isNs (W.isNs_of_in X h1),W.nsMap_none_of_in X h1 h2,W.tail_of_in X h3⟩,PySem.F.excBase_ValueError⟩
section
variable{X:Cx}{k:Nat}{a b d:Expr}{es:List Expr}
variable{ta tb tc td:TE}{fb fc fd:ME}{op' op'':CmpOp}{r r' r'':R2}{o1 o2 o3:D->D->aB->ai D}
theorem Cp(ho:jW X 19e1 r)(ho':jW X 51e5 r')(ho'':jW X (compareOp op'') r'')(ha:PE X a ta)(hb:PE X b tb)(hc:PE X c tc)(hd:PE X d td)
  (hm:lastMarks [op,op',op''] [b,c,d]=false):PE X 63e7 (A5 r r' r'' ta tb tc td):=by
 intro pins s B H Q I h
 refine Compare_chain (dM 9e2 fun v s1 ⟨x,H1,I1,r1,q1⟩=>chain_link (dM 25e3 fun u s2 ⟨y,H2,I2,r2,q2⟩=>
  dM 17e6 fun d s3 ⟨z,H3,I3,r3,k,e,q3⟩=>?_)) hm
 subst e;cases r3;refine RD ?_;cases k with
 |false=>exact ite_ff ⟨.bl false,H3,I3,rfl,q3⟩
 |true=>
  refine ite_tt (chain_link 12e4);subst e2;cases r5;refine RD ?_;cases k2 with
  |false=>exact ite_ff ⟨.bl false,H5,I5,rfl,q5⟩
  |true=>exact ite_tt (chain_last (dM (hd pins s5 B H5 _ I5 q5) fun w'' s6 ⟨z'',H6,I6,r6,q6⟩=>ho'' pins s6 B H6 z' z'' w' w'' Q I6 r4 r6 q6))
theorem zk(hd1:pX p o1 r)(hd2:pX p o2 r')(hd3:pX p o3 r''){Q:VK}(h:tD p (sj o1 o2 o3 fa fb fc fd) B H Q):A5 r r' r'' 24e9 44e3 70e9 (tD p fd) B H Q:=by
 obtain⟨Z,ρ,Y,S,R,P⟩:=h;refine⟨Z,ρ,Y,S,R,(aH.bind P).imp fun x Y1 H1 Z1 X1 S1 P1 v rv=>⟨Z1,ρ,Y1,S1,R.mono X1,(aH.bind P1).imp fun y Y2 H2 Z2 X2 S2 P2 u ru=>?_⟩⟩;refine hd1 x y v u H2 Z2 Y2 _ S2 29e6 ru 47e4;obtain⟨k,_,e,q⟩:=oh (aH.bind P3) rw' S3;refine⟨k,e,?_⟩;cases k with
 |true=>
  rw[Rc rfl]at q⊢;refine⟨Z3,ρ,Y3,S3,((R.mono X1).mono X2).mono X3,(aH.bind q).imp fun c Y5 H5 Z5 X5 S5 P5 t rt=>?_⟩;refine hd2 y c u t H5 Z5 Y5 _ S5 ((ru.mono X3).mono X5) rt ((aH.bind P5).imp fun z2 Y6 H6 Z6 X6 S6 P6 w2 rw2=>?_);obtain⟨k2,_,e2,q2⟩:=oh (aH.bind P6) rw2 S6;refine⟨k2,e2,?_⟩;cases k2 with
  |true=>
   rw[Rc rfl]at q2⊢;exact⟨Z6,ρ,Y6,S6,((((R.mono X1).mono X2).mono X3).mono X5).mono X6,(aH.bind q2).imp fun d Y7 H7 Z7 X7 S7 P7 t7 rt7=>hd3 c d t t7 H7 Z7 Y7 _ S7 ((rt.mono X6).mono X7) rt7 P7⟩
  |false=>rw[Re RL]at q2⊢;exact q2.now S6 _ 24e0
 |false=>rw[Re RL]at q⊢;exact q.now S3 _ 24e0
theorem Ku(k:lY X p op o1)(k':lY X p op' o2)(k'':lY X p op'' o3)(ha:Bx 4e8)(hb:Bx 9e4)(hc:Bx (PE X c 70e9))(hd:Bx (PE X d (tD p fd)))(hm:lastMarks [op,op',op''] [b,c,d]=false:=by rfl):Bx (PE X 63e7 (tD p (sj o1 o2 o3 fa fb fc fd))):=
 Bx.mk (let ⟨_,h1,h2⟩:=k.ex;let ⟨_,h3,h4⟩:=k'.ex;let ⟨_,h5,h6⟩:=k''.ex;(Cp h1 h3 h5 ha.h hb.h hc.h hd.h hm).weak fun B H Q h=>zk h2 h4 h6 h)
end
def Bg(K:W.Frag):V->List V->Hp->VK->Prop:=fun x vs H Q=>∃l xs y qs q,x=.ref l/\vs=[y]/\H l=some 3e1/\RdPs K H qs xs/\oG K H q y/\PyData.canLayAll0 qs=true/\dS q=true/\Q 55e7 H
section
variable{X:Cx}
theorem CD (hu:X.A.units+64<cLine):Nv X "list.count" (Bg X.K):=by
 intro pins s B H x vs v us Q I rx rv h;obtain⟨l,xs,y,qs,q,rfl,rfl,hH,rq,ry,hc,hf,hQ⟩:=h;cases rx;obtain⟨u,rfl,ru⟩:=rv.one;obtain⟨z,its,n,r,hl,e⟩:=I.lstM hH;obtain⟨as,r1⟩:=readsAll_of I qs xs its rq r;obtain⟨bs,r2⟩:=dZ I q y u ry ru;have hd:=lx hf;refine Te F.slot_list_count ⟨_,e,rfl⟩ F.entry_list_count (F.args_list_count_2 _ _) (SeqAt.list_countAt l 2e7 n none #[] u fun y=>PyData.eqv (SeqAt.readOf 3e0 y) q) ⟨e,SeqAt.items_eqAt (vs:=2e7) r1 r2 hc (cK hf) ?_,?_⟩
 ·have:=Sx (PyData.depthAll qs) q.depth;show X.A.units+1+_<_;omega
 ·refine⟨.int (qs.countP fun z=>PyData.eqv z q:Nat),H,I.tok _,⟨36e9,?_⟩,hQ⟩;rw[<- SeqAt.readsAll_map qs _ _ hc r1,VH];rfl
end
def m5(d:D)(ds:List D)(Y:aB):ai D:=match d,ds with
 |.obj n,[x]=>match Y[n]?,nR Y x with
  |some 3e1,some q=>match fV Y xs with
   |some qs=>if PyData.canLayAll0 qs=true/\dS q=true then .ok 55e7 Y else .bad
   |none=>.bad
  |_,_=>.bad
 |_,_=>.bad
section
theorem Ap:J6 p m5 (Bg p.K):=by
 intro d ds v vs H Z Y Q S rd rs P;unfold m5 at P;split at P
 ·split at P
  ·split at P
   ·split at P
    ·rename_i xs q hx hq _ qs hqs hc;obtain⟨a,us,rfl,a1,h1,rr⟩:=di S rd hx;dsimp[Reps]at rs;obtain⟨y,r',rfl,h3,rfl⟩:=rs;exact⟨a,us,y,qs,q,rfl,rfl,h1,mi S hqs rr,me S hq h3,hc.1,hc.2,P.now S _ 11e4⟩
    ·exact P.elim
   ·exact P.elim
  ·exact P.elim
 ·exact P.elim
end
section
variable{X:Cx}{fo:ME}
theorem Kt (hu:X.A.units+64<cLine) (ho:Bx 28e8) (ha:Bx 40e2) (hbase:attributeBase ob "count" X.env 50e9=eval ob 2e1:=by rfl) (hfew:((backTo pos 30e5).all 51e0&&(backToKw pos 15e9).all 28e9
   && decide 2e8)=true:=by rfl) (hline:(apos.endLine == pos.line)=true:=by rfl) (hs:starEach [e] 2e1=(false,eval e 2e1)::starEach [] 2e1:=by rfl) (hpl:(backTo pos 32e7).any 3e3=false:=by rfl) (hK:X.K=p.K:=by rfl):Bx (PE X 53e1 (tD p (uG m5 fo fr))):=
 ⟨uK hK PySem.F.slot_list_count PySem.F.type_list_count (hK ▸ CD hu) Ap ho.h ha.h hbase hfew hline hs hpl⟩
end
section
variable(K:W.Frag)(H:Hp)
mutual
def ug:PyData->V->Prop
 |.none,v=>v=.non
 |.bool b,v=>v=.bl b
 |.int i,v=>v=.int i
 |.str x,v=>v=.str x
 |.tuple xs,v=>∃a vs,v=.ref a/\fS K H a vs/\RdGs xs vs
 |.list xs,v=>∃a vs,v=.ref a/\gW K H a vs/\RdGs xs vs
 |.dict kvs,v=>kvs=[]/\∃a,v=.ref a/\H a=some (.dK [])
def RdGs:List PyData->List V->Prop
 |[],vs=>vs=[]
 |x::xs,vs=>∃v r,vs=v::r/\ug x v/\RdGs xs r
end
end
mutual
def Nu:PyData->Bool
 |.list _=>false
 |.tuple xs=>noLs xs
 |_=>true
def noLs:List PyData->Bool
 |[]=>true
 |x::xs=>Nu x&&noLs xs
end
section
variable{X:Cx}
theorem Mg(h:(a == sysModules)=false):a≠sysModules:=by simpa using h
mutual
theorem uY(I:bb X pins B H s):∀(d:PyData)(x:V)(v:Value),ug X.K H d x->cE x v->∃as,Reads 3e0 v d as/\(Nu d=true->sysModules∉as)
 |.none,_,_,h,r=>by dsimp[ug]at h;subst h;cases r;exact⟨_,.none,fun _ z=>by cases z⟩
 |.bool b,_,_,h,r=>by dsimp[ug]at h;subst h;cases r;exact⟨_,.bool b,fun _ z=>by cases z⟩
 |.int b,_,_,h,r=>by dsimp[ug]at h;subst h;obtain⟨t,rfl⟩:=r;exact⟨_,.int b t,fun _ z=>by cases z⟩
 |.str b,_,_,h,r=>by dsimp[ug]at h;subst h;obtain⟨t,rfl⟩:=r;exact⟨_,.str b t,fun _ z=>by cases z⟩
 |.tuple xs,_,_,h,r=>by
  dsimp[ug]at h;obtain⟨a,vs,rfl,h1,h2⟩:=h;cases r;obtain⟨its,rv,⟨o,e1,e2,n,e3⟩,_⟩:=I.tuple h1;obtain⟨as,q,hn⟩:=readsAllG_of I xs vs its h2 rv;exact⟨_,.tuple e1 e2 e3 37e9,fun z=>hn (by simpa only[Nu] using z)⟩
 |.list xs,_,_,h,r=>by
  dsimp[ug]at h;obtain⟨a,vs,rfl,h1,h2⟩:=h;cases r;obtain⟨its,rv,⟨o,n,e1,e2,_,e3⟩,_⟩:=I.list h1;obtain⟨as,q,_⟩:=readsAllG_of I xs vs its h2 rv;exact⟨_,.list e1 e2 e3 37e9,fun z=>by dsimp[Nu]at z;cases z⟩
 |.dict kvs,_,_,h,r=>by
  dsimp[ug]at h;obtain⟨rfl,a,rfl,h1⟩:=h;cases r;obtain⟨_,hS,vs,rv,o,es,n,e1,e2,e3,_,e4,_⟩:([]:List (uh×V)).length<=sizeLine/\(a == sysModules)=false/\∃vs,KV ([]:List (uh×V)) vs/\s.heap.DictOf (sf 23e6 X.w) a vs:=I.hok a _ h1;cases rv
  have hes:es.toList=[]:=by
   generalize 76e8=l at e4;cases e4;rfl
  refine⟨[a]++[],Reads.dict (as:=[]) (bs:=[]) e1 e2.1 e3 ?_ ?_,fun _ z=>?_⟩
  ·rw[hes];exact .nil
  ·rw[hes];exact .nil
  ·simp at z;exact Mg hS z.symm
theorem readsAllG_of(I:bb X pins B H s):∀(ds:List PyData)(xs:List V)(vs:List Value),RdGs X.K H ds xs->bt xs vs->∃as,ReadsAll 3e0 vs ds as/\(noLs ds=true->sysModules∉as)
 |[],_,_,h,r=>by dsimp[RdGs]at h;subst h;cases r;exact⟨_,.nil,fun _ z=>by cases z⟩
 |d::ds,_,_,h,r=>by
  dsimp[RdGs]at h;obtain⟨v,q,rfl,h1,h2⟩:=h;cases r with
  |cons r rr=>
   obtain⟨as,g1,n1⟩:=uY I d _ _ h1 r;obtain⟨bs,g2,n2⟩:=readsAllG_of I ds _ _ h2 rr;refine⟨_,.cons g1 g2,fun z=>?_⟩;dsimp[noLs,SM]at z;intro y;rcases Rw.mp y with y|y
   ·exact n1 z.1 y
   ·exact n2 z.2 y
end
end
def Ei(K:W.Frag):List V->Hp->VK->Prop:=fun xs H Q=>(∃a d,xs=[.ref a]/\ug K H d 19e0/\d.showable=true/\(d.hasDict=true->Nu d=true)/\d.depth<=60/\d.shown.length<=sizeLine/\Q (.str d.shown) H) \/
 (xs=[.non]/\Q (.str "None") H)\/(∃a:Int,xs=[.int a]/\a.natAbs.log2<1920/\Q (.str (toString a)) H)\/(∃b:Bool,xs=[.bl b]/\Q 63e8 H)\/∃x:Str,xs=[.str x]/\(reprText x).length<=sizeLine/\Q (.str (reprText x)) H
theorem AJ {X:Cx} (hu:X.A.units+64<cLine) (hg:X.A.guards=some []):du X (.builtin "repr") (Ei X.K):=by
 intro pins s B H xs us Q I r h;rcases h with⟨a,d,rfl,h1,hs,hd,hdp,hz,q⟩|⟨rfl,q⟩|⟨a,rfl,ha,q⟩|⟨b,rfl,q⟩|⟨x,rfl,hx,q⟩
 ·obtain⟨u,rfl,ru⟩:=fj r;cases ru;obtain⟨as,r1,hn⟩:=uY I d 19e0 19e0 h1 rfl;exact PySem.repr_of_reads' (h₀:=3e0) r1 hs (fun z=>hn (hd z)) hg 0e0 34e7 (fun h' u tk hk=>⟨.str _,H,I.kept hk,⟨u,rfl⟩,q⟩) hz
 ·obtain⟨u,rfl,ru⟩:=fj r;cases ru;exact PySem.P.repr_of_none ⟨.str _,H,I.kept 34e7,⟨_,rfl⟩,q⟩
 ·obtain⟨u,rfl,t,rfl⟩:=fj r;exact PySem.P.repr_of_int ha ⟨.str _,H,I.kept 34e7,⟨_,rfl⟩,q⟩
 ·obtain⟨u,rfl,ru⟩:=fj r;cases ru;refine PySem.P.repr_of_bool ⟨.str _,H,I.kept 34e7,⟨_,rfl⟩,?_⟩;cases b <;> exact q
 ·obtain⟨u,rfl,t,rfl⟩:=fj r;exact PySem.P.repr_of_str ⟨.str _,H,I.kept 34e7,⟨_,rfl⟩,q⟩ hx
def DV:D->Option PyData
 |.non=>some .none
 |.bl b=>some (.bool b)
 |.int i=>some 15e8
 |.str x=>some 41e6
 |_=>none
def p8(f:D->Option PyData):List D->Option (List PyData)
 |[]=>some []
 |x::xs=>(f x).bind fun a=>(p8 f xs).map fun r=>a::r
def Di(Y:aB):Nat->D->Option PyData
 |0,d=>DV d
 |n+1,d=>match d with
  |.tup xs=>(p8 (Di Y n) xs).map .tuple
  |.frz xs=>(p8 (Di Y n) xs).map .list
  |.obj k=>match Y[k]? with
   |some 3e1=>(p8 (Di Y n) xs).map .list
   |some .dic=>some (.dict [])
   |_=>none
  |d=>DV d
section
theorem yJ{q:PyData}(h:DV d=some q)(r:aQ K H Z d v):ug K H q v:=by
 cases d with
 |non=>cases h;dsimp[ug];exact bT.mp r
 |bl b=>cases h;dsimp[ug];exact aZ.mp r
 |int b=>cases h;dsimp[ug];exact ax.mp r
 |str b=>cases h;dsimp[ug];exact bC.mp r
 |tup _=>cases h
 |frz _=>cases h
 |obj _=>cases h
theorem wq{f:D->Option PyData}(hf:∀d q v,f d=some q->aQ K H Z d v->ug K H q v):∀{ds:List D}{qs:List PyData}{vs:List V},p8 f ds=some qs->Reps K H Z ds vs->RdGs K H qs vs:=by
 intro ds
 induction ds with
 |nil=>intro qs vs h r;cases h;dsimp[Reps]at r;dsimp[RdGs];exact r
 |cons d ds ih=>
  intro qs vs h r;dsimp[p8]at h;cases e1:f d with
  |none=>rw[e1]at h;cases h
  |some a=>
   rw[e1]at h;cases e2:p8 f ds with
   |none=>rw[e2]at h;cases h
   |some t=>
    rw[e2]at h;cases h;dsimp[Reps]at r;obtain⟨v,r',rfl,h1,h2⟩:=r;dsimp[RdGs];exact⟨v,r',rfl,hf d a v e1 h1,ih e2 h2⟩
theorem KB(S:gD K w H Z Y):∀(n:Nat)(d:D)(q:PyData)(v:V),Di Y n d=some q->aQ K H Z d v->ug K H q v:=by
 intro n
 induction n with
 |zero=>intro d q v h r;exact yJ h r
 |succ n ih=>
  intro d q v h r;unfold Di at h;split at h
  ·rename_i xs;cases e:p8 (Di Y n) xs with
   |none=>rw[e]at h;cases h
   |some qs=>
    rw[e]at h;cases h;obtain⟨a,us,rfl,h1,h2⟩:=aN.mp r;dsimp[ug];exact⟨a,us,rfl,h1,wq ih e h2⟩
  ·rename_i xs;cases e:p8 (Di Y n) xs with
   |none=>rw[e]at h;cases h
   |some qs=>
    rw[e]at h;cases h;obtain⟨a,us,rfl,h1,h2⟩:=bI.mp r;dsimp[ug];exact⟨a,us,rfl,h1.sq,wq ih e h2⟩
  ·rename_i k;split at h
   ·rename_i xs hx;cases e:p8 (Di Y n) xs with
    |none=>rw[e]at h;cases h
    |some qs=>
     rw[e]at h;cases h;obtain⟨a,ea,us,h1,h2⟩:=S.at hx;obtain⟨a',rfl,ea'⟩:=aU.mp r;rw[ea]at ea';cases ea';dsimp[ug];exact⟨a,us,rfl,.inl (.inl h1),wq ih e h2⟩
   ·rename_i hx;cases h;obtain⟨a,ea,h1⟩:=S.at hx;obtain⟨a',rfl,ea'⟩:=aU.mp r;rw[ea]at ea';cases ea';dsimp[ug];exact⟨trivial,a,rfl,h1⟩
   ·cases h
  ·exact yJ h r
end
def se(q:PyData):Bool:=q.showable&&(!q.hasDict || Nu q)&&decide (q.depth<=60)&&decide (q.shown.length<=sizeLine)
def kv(ds:List D)(Y:aB):ai D:=match ds with
 |[.non]=>.ok (.str "None") Y
 |[.int a]=>if a.natAbs.log2<1920 then .ok (.str (toString a)) Y else .bad
 |[.bl b]=>.ok 63e8 Y
 |[.str x]=>if (reprText x).length<=sizeLine then .ok (.str (reprText x)) Y else .bad
 |[d]=>match Di Y 5 d with
  |some q=>if Eu d=true/\se q=true then .ok (.str q.shown) Y else .bad
  |none=>.bad
 |_=>.bad
theorem FH:zr p kv (Ei p.K):=by
 intro ds vs H Z Y Q S r P;unfold kv at P;split at P
 ·obtain⟨v,rfl,r1⟩:=r.one;rw[bT.mp r1];exact .inr (.inl ⟨rfl,P.now S _ 55e6⟩)
 ·obtain ⟨v, rfl, r1⟩ := r.one;rw[ax.mp r1];split at P
  ·rename_i ha;exact .inr (.inr (.inl ⟨_,rfl,ha,P.now S _ 55e6⟩))
  ·exact P.elim
 ·obtain⟨v,rfl,r1⟩:=r.one;rw[aZ.mp r1];exact .inr (.inr (.inr (.inl ⟨_,rfl,P.now S _ 55e6⟩)))
 ·obtain ⟨v, rfl, r1⟩ := r.one;rw[bC.mp r1];split at P
  ·rename_i ha;exact .inr (.inr (.inr (.inr ⟨_,rfl,ha,P.now S _ 55e6⟩)))
  ·exact P.elim
 ·rename_i d _ _ _ _;split at P
  ·rename_i q hq;split at P
   ·rename_i hf;obtain⟨v,rfl,r1⟩:=r.one;obtain⟨a,rfl⟩:=Ar hf.1 r1;have h2:=hf.2;unfold se at h2;dsimp[SM,Vs]at h2;refine .inl ⟨a,q,rfl,KB S 5 d q _ hq r1,h2.1.1.1,fun z=>?_,h2.1.2,h2.2,P.now S _ 55e6⟩;have h3:=h2.1.1.2;rw[z]at h3;simpa using h3
   ·exact P.elim
  ·exact P.elim
 ·exact P.elim
theorem BD{X:Cx}{k:Nat}(hr:iw k X.A)(hK:X.K=p.K:=by rfl):rN X p "repr" kv:=⟨_,_,.inl ⟨_,rfl⟩,by decide +kernel,AJ 4e5 hr.gd,hK ▸ FH,by decide,by decide⟩
end L2
namespace RS
open PySem PySem.W PyProof.Rows
structure ZA(z TI TO i1 i2:Addr)(f1 f2:List Addr):Prop where
 TIz:TI≠z
 TOz:TO≠z
 i1z:i1≠z
 i2z:i2≠z
 TOi1:TO≠i1
 TOi2:TO≠i2
 z1:z∉f1
 z2:z∉f2
 t1:TO∉f1
 t2:TO∉f2
 j1:i2∉f1
 j2:i1∉f2
end RS
namespace L2
open PySem PySem.Spec PyProof.Rows RS
structure ZN(z TI TO i1 i2 a1 a2:Addr):Prop where
 nd:[z,TI,TO,i1,i2].Nodup
 n1:∀b∈[z,TI,TO,i1,i2],a1≠b
 n2:∀b∈[z,TI,TO,i1,i2],a2≠b
end L2
namespace HT
open PySem PyProof.Rows
open PySem.SeqAt
open PySem.AutoSeq1 (wpAny_loadPart')
open PySem.MeetsSeq PySem.MeetsSeq2 PySem.MeetsSeq3
theorem Fi(l:Addr)(items:Array Value)(n:Nat)(x:Value)(e:Value->Bool)(j:Nat)(hj:j<items.size)(hit:e items[j]=true)(hs1:items.size<=sizeLine)(k:Nat) :
  ∀i:Nat,j-i=k->i<=j->(∀m (hm:m<items.size),i<=m->m<j->e items[m]=false)->Meets (Builtin.«list.remove.loop» ⟨[.ref l,x,rawInt i],[]⟩)
   (fun A R s=>s.heap.get? l=some {cls:=.type "list",dict:=none,data:=.seq items n,slots:=#[]}/\(∀y,y∈items->EqAt A.in1 s y x (e y))/\R (.ok 66e6) {s with heap:=s.heap.update l 55e8}):=by
 induction k with
 |zero=>
  intro i hk hij hno prog w A R s h;obtain⟨hp,g,d,tk,os⟩:=s;obtain⟨hl,he,h⟩:=h;have hij':i=j:=by omega
  subst hij'
  wp_walk using wpAny_loadPart' hl
  have hi:items[((i:Nat):Int).toNat]?=some items[i]:=by simp[hj]
  rw[hi];refine RH (he _ (UZ hj) prog w _ _ ?_);rw[hit];have hz':(items.eraseIdxIfInBounds i).size<=sizeLine+1:=Rm (size_erased items _) (Nat.le_succ_of_le hs1)
  wp_walk using (wpAny_updateSeq hl rfl (hz:=hs1) (_hz':=hz')),wpAny_loadPart' hl
  simpa using h
 |succ k ih=>
  intro i hk hij hno prog w A R s h;obtain⟨hp,g,d,tk,os⟩:=s;obtain⟨hl,he,h⟩:=h;have hlt:i<items.size:=by omega
  wp_walk using wpAny_loadPart' hl
  have hi:items[((i:Nat):Int).toNat]?=some items[i]:=by simp[hlt]
  have hc:((i:Int)+1)=((i+1:Nat):Int):=by push_cast;rfl
  rw[hi];refine RH (he _ (UZ hlt) prog w _ _ ?_);rw[hno i hlt 7e5 0e0]
  wp_walk
  rw[hc]
  exact⟨UP plain_remove_loop _,UM entry_remove_loop (by
   rw[UN plain_remove_loop _]
   exact ih (i+1) 0e0 0e0 (fun m hm h1 h2=>hno m hm 0e0 h2) prog w A R _ ⟨hl,he,h⟩)⟩
theorem rem_at(l:Addr)(items:Array Value)(n:Nat)(x:Value)(e:Value->Bool)(j:Nat)(hj:j<items.size)(hit:e items[j]=true)(hno:∀m (hm:m<items.size),m<j->e items[m]=false)(hs1:items.size<=sizeLine) :
  Meets (Builtin.«list.remove» ⟨[.ref l,x],[]⟩)
   (fun A R s=>s.heap.get? l=some {cls:=.type "list",dict:=none,data:=.seq items n,slots:=#[]}/\(∀y,y∈items->EqAt A.in1 s y x (e y))/\R (.ok 66e6) {s with heap:=s.heap.update l 55e8}):=by
 intro prog w A R s h;obtain⟨hp,g,d,tk,os⟩:=s;obtain⟨hl,he,h⟩:=h
 wp_walk using wpAny_loadPart' hl
 exact⟨UP plain_remove_loop _,UM entry_remove_loop (by
  rw[UN plain_remove_loop _]
  exact Fi l items n x e j hj hit hs1 _ 0 rfl 73e8 (fun m hm _ h2=>hno m hm h2) prog w A R _ ⟨hl,he,h⟩)⟩
end HT
namespace L2
open PySem PySem.Spec PyProof.Rows RS
def JD(K:W.Frag):V->List V->Hp->VK->Prop:=fun x vs H Q=>∃l xs y qs q,x=.ref l/\vs=[y]/\H l=some 3e1/\RdPs K H qs xs/\oG K H q y/\PyData.canLayAll0 qs=true/\dS q=true/\(qs.any fun z=>PyData.eqv z q)=true/\Q .non (cQ H l (.lst (xs.eraseIdx 23e0)))
section
variable{X:Cx}
theorem ID (hu:X.A.units+64<cLine):Nv X "list.remove" (JD X.K):=by
 intro pins s B H x vs v us Q I rx rv h;obtain⟨l,xs,y,qs,q,rfl,rfl,hH,rq,ry,hc,hf,hany,hQ⟩:=h;cases rx;obtain⟨u,rfl,ru⟩:=rv.one;obtain⟨z,its,n,r,hl,e⟩:=I.lstM hH;obtain⟨as,r1⟩:=readsAll_of I qs xs its rq r;obtain⟨bs,r2⟩:=dZ I q y u ry ru;have hd:=lx hf;have hm:=SeqAt.readsAll_map qs _ _ hc r1;have hlen:its.length=qs.length:=by rw[<- hm,Sn]
 have hlt:(qs.findIdx fun z=>PyData.eqv z q)<qs.length:=VI (by simpa using hany)
 have hb:∀m (h1:m<its.length) (h2:m<qs.length),SeqAt.readOf 3e0 its[m]=qs[m]:=fun m h1 h2=>by
  have:(its.map (SeqAt.readOf 3e0))[m]?=qs[m]?:=by rw[hm]
  rw[Si,Vg h1,Vg h2]at this;exact Q7 this
 refine Te F.slot_list_remove ⟨_,e,rfl⟩ F.entry_list_remove (F.args_list_remove_2 _ _) (HT.rem_at l 2e7 n u (fun y=>PyData.eqv (SeqAt.readOf 3e0 y) q) 23e0 (by rw[R0,hlen];exact hlt) ?_ ?_ 42e0) ⟨e,SeqAt.items_eqAt (vs:=2e7) r1 r2 hc (cK hf) ?_,?_⟩
 ·rw[VG,hb _ (by rw[hlen];exact hlt) hlt];exact List.findIdx_getElem (w:=hlt)
 ·intro m hm' hmj;rw[VG,hb m (by rw[R0]at hm';exact hm') 0e0];have hf:=List.not_of_lt_findIdx hmj;simpa using hf
 ·have:=Sx (PyData.depthAll qs) q.depth;show X.A.units+1+_<_;omega
 ·refine ⟨.non, _, I.lset (its' := its.eraseIdx (qs.findIdx fun z => PyData.eqv z q)) hH e ?_ (r.eraseIdx _) ?_, rfl, hQ⟩
  ·show its.toArray.eraseIdxIfInBounds _=(its.eraseIdx _).toArray;rw[Th]
  ·have:=qx xs 23e0;omega
end
def jI(d:D)(ds:List D)(Y:aB):ai D:=match d,ds with
 |.obj n,[x]=>match Y[n]?,nR Y x with
  |some 3e1,some q=>match fV Y xs with
   |some qs=>if PyData.canLayAll0 qs=true/\dS q=true/\(qs.any fun z=>PyData.eqv z q)=true then .ok .non (Y.set n (.lst (xs.eraseIdx 23e0))) else .bad
   |none=>.bad
  |_,_=>.bad
 |_,_=>.bad
section
variable{X:Cx}{fo:ME}
theorem FR:J6 p jI (JD p.K):=by
 intro d ds v vs H Z Y Q S rd rs P;unfold jI at P;split at P
 ·rename_i n x;split at P
  ·rename_i xs q hx hq;split at P
   ·rename_i qs hqs;split at P
    ·rename_i hc;obtain⟨a,us,rfl,a1,h1,rr⟩:=di S rd hx;obtain⟨w,rfl,rw'⟩:=rs.one;exact⟨a,us,w,qs,q,rfl,rfl,h1,mi S hqs rr,me S hq rw',hc.1,hc.2.1,hc.2.2,P _ _ (iL h1) (S.put hx a1 h1 (rr.eraseIdx _)) _ 55e5⟩
    ·exact P.elim
   ·exact P.elim
  ·exact P.elim
 ·exact P.elim
theorem vM (hu:X.A.units+64<cLine) (ho:Bx 28e8) (ha:Bx 40e2) (hbase:attributeBase ob "remove" X.env 50e9=eval ob 2e1:=by rfl) (hfew:((backTo pos 30e5).all 51e0&&(backToKw pos 15e9).all 28e9
   && decide 2e8)=true:=by rfl) (hline:(apos.endLine == pos.line)=true:=by rfl) (hs:starEach [e] 2e1=(false,eval e 2e1)::starEach [] 2e1:=by rfl) (hpl:(backTo pos 32e7).any 3e3=false:=by rfl) (hK:X.K=p.K:=by rfl):Bx (PE X (.Call (.Attribute ob "remove" apos) [e] [] pos) (tD p (uG jI fo fr))):=
 ⟨uK hK PySem.F.slot_list_remove PySem.F.type_list_remove (hK ▸ ID hu) FR ho.h ha.h hbase hfew hline hs hpl⟩
end
def OO(K:W.Frag):List V->Hp->VK->Prop:=fun xs H Q=>∃(l:Addr)(a b:Int),xs=[.ref l]/\fS K H l [.int a,.int b]/\(0<=a/\a<1000)/\(0<=b/\b<1000)/\Q (.int (a+b)) H
theorem C2 {X:Cx} (hc:X.calm=true):du X (.builtin "sum") (OO X.K):=by
 intro pins s B H xs us Q I r h;obtain⟨l,a,b,rfl,ha,h1,h2,q⟩:=h;obtain⟨u,rfl,ru⟩:=fj r;cases ru;obtain⟨its,rv,pl,hz⟩:=I.tuple ha;obtain⟨u1,u2,rfl,⟨t1,rfl⟩,⟨t2,rfl⟩⟩:=AV rv
 have hne:l≠s.heap.objs.size:=by
  obtain⟨o,e,_⟩:=pl;exact Ri 73e5
 refine call_sum_walk (TU (show s.heap.IsTuple l [Value.int a t1,Value.int b t2].toArray from pl) ?_);refine⟨0e3,[0e3,l],[0e3],2,_,_,fun i=>if i=0 then a else b,rfl,UW (A:=X.A.in1) 9e0 _ l hne [Value.int a t1,Value.int b t2].toArray,?_,?_,?_,?_,?_⟩
 ·refine⟨⟨_,RR _ rfl,rfl,rfl⟩,?_⟩;obtain⟨o,e,r⟩:=pl;exact⟨o,RQ _ e,r⟩
 ·intro b' hb;obtain⟨o,e,_⟩:=pl;have hl:=Rf e;have hz:∀ob:Obj,(s.heap.push ob).objs.size=s.heap.objs.size+1:=fun ob=>by simp[Heap.push]
  show b'<(s.heap.push _).objs.size;rw[hz];rcases Ru.mp hb with rfl|hb
  ·exact Tt _
  ·rw[TK.mp hb];exact Tu hl
 ·intro i v hv
  match i with
  |0=>cases hv;exact⟨t1,rfl⟩
  |1=>cases hv;exact⟨t2,rfl⟩
  |i+2=>simp at hv
 ·intro j hj;have h12:InLong a/\InLong b:=⟨8e0,8e0⟩
  match j with
  |0=>exact⟨h12.1,by show InLong (0+a);unfold InLong;omega⟩
  |1=>exact⟨h12.2,by show InLong (0+a+b);unfold InLong;omega⟩
  |j+2=>omega
 ·intro h' tk t' hk;refine⟨.int (a+b),H,I.fresh_it hk,⟨t',?_⟩,q⟩;show Value.int (0+a+b) t'=_;rw[Int.zero_add]
def AY(ds:List D)(Y:aB):ai D:=match ds with
 |[.tup [.int a,.int b]]=>if (0<=a/\a<1000)/\(0<=b/\b<1000) then .ok (.int (a+b)) Y else .bad
 |_=>.bad
theorem Ng{X:Cx}(hc:X.calm=true:=by rfl)(hK:X.K=p.K:=by rfl):rN X p "sum" AY:=⟨_,_,.inl ⟨_,rfl⟩,by decide +kernel,C2 hc,by
 rw[hK];intro ds vs H Z Y Q S r P;unfold AY at P;split at P
 ·rename_i a b;split at P
  ·rename_i h;obtain⟨v,rfl,r1⟩:=r.one;obtain⟨l,us,rfl,h1,h2⟩:=aN.mp r1;obtain⟨u1,u2,rfl,q1,q2⟩:=h2.two;rw[ax.mp q1,ax.mp q2]at h1;exact⟨l,a,b,rfl,h1,h.1,h.2,P.now S _ 11e4⟩
  ·exact P.elim
 ·exact P.elim,by decide,by decide⟩
end L2
namespace HT
open PySem PyProof.Rows
open PySem.AutoSeq1 (wpAny_loadPart' idx_int)
theorem zb:fillsNumberSlot 31e6 "mul" = pure false:=
 PySem.fillsNumberSlot_seq (id:="tuple.__mul__") (r:=some (.builtin "tuple.__rmul__")) VJ.lookup 1e0 F.slot_tuple_rmul.lookup 1e0
theorem Ag:seqRepeat? 31e6=pure (some (.builtin "tuple.__mul__")):=by
 unfold seqRepeat?;rw[VD (T:="tuple") (name:="__mul__") (id:="tuple.__mul__") VJ.lookup 1e0,VD (T:="tuple") (name:="__rmul__") (id:="tuple.__rmul__") F.slot_tuple_rmul.lookup 1e0];rfl
theorem xc(a:Int)(t:Tok)(l:Addr)(items:Array Value)(n:Nat)(dd:Option Addr)(sl:Array 35e0) :
  Meets (Builtin.«int.__rmul__» ⟨[.int a t,.ref l],[]⟩) (fun _ R s=>s.heap.get? l=some {cls:=.type "tuple",dict:=dd,data:=.seq items n,slots:=sl}/\R (.ok (.ret Value.notImplemented)) s):=
 .of_wp fun prog w A R s h=>by
  obtain⟨hp,g,d,tk,os⟩:=s;obtain⟨hl,h⟩:=h
  wp_walk
  exact⟨_,rfl,h⟩
theorem Oj(l:Addr)(items:Array Value)(n:Nat)(dd:Option Addr)(sl:Array 35e0)(u:Tok) :
  Meets (Builtin.«tuple.__mul__» ⟨[.ref l,.int 1 u],[]⟩) (fun _ R s=>s.heap.get? l=some {cls:=.type "tuple",dict:=dd,data:=.seq items n,slots:=sl}/\R (.ok (.ret 23e8)) s):=
 .of_wp fun prog w A R s h=>by
  obtain⟨hp,g,d,tk,os⟩:=s;obtain⟨hl,h⟩:=h;have f1:=idx_int
  wp_walk using wpAny_loadPart' hl
  exact⟨_,rfl,h⟩
theorem Oi(l:Addr)(items:Array Value)(n:Nat)(dd:Option Addr)(sl:Array 35e0)(k:Int)(u:Tok)(h1:¬ (decide (k < -(2^63)) || decide (k ≥ 2^63))=true)(h2:¬ (items.isEmpty || k == 1)=true)(h3:¬ (decide (k<=0) || items.isEmpty)=true)(h4:¬ items.size*k>(2^63-1) / 8)(h5:¬ Builtin.Tuple.tupleTooMany (items.size*k)=true)
  (h6:(List.foldl 28e7 #[] (List.replicate 31e5 items)).size<=sizeLine) :
  Meets (Builtin.«tuple.__mul__» ⟨[.ref l,.int k u],[]⟩) (fun _ R s=>s.heap.get? l=some {cls:=.type "tuple",dict:=dd,data:=.seq items n,slots:=sl} /\
   R (.ok (.ret 14e2)) {s with heap:=s.heap.push {cls:=.type "tuple",data:=.seq (List.foldl 28e7 #[] (List.replicate 31e5 items))},toks:=36e9}):=
 .of_wp fun prog w A R s h=>by
  obtain⟨hp,g,d,tk,os⟩:=s;obtain⟨hl,h⟩:=h;have f1:=idx_int
  wp_walk using wpAny_loadPart' hl
  refine wpAny_ite_false (Q9 h1) ?_
  wp_walk using wpAny_loadPart' hl
  refine wpAny_ite_false (Q9 h4) ?_
  wp_walk
  exact⟨_,rfl,h⟩
end HT
namespace L2
open PySem PySem.Spec PyProof.Rows RS HT
section
variable{X:Cx}
def DM(K:W.Frag):R2:=fun x y H Q=>∃l k xs,x=.ref l/\y=.int k/\fS K H l xs/\xs≠[]/\1<=k/\k<2^40/\xs.length*k.toNat<=sizeLine /\
 (k=1->Q 23e8 H)/\(k≠1->∀p,H p=none->Q 51e6 (cQ H p 62e6))
theorem Ig:jW X 60e1 (DM X.K):=by
 intro pins s B H x y v u Q I rx ry h;obtain⟨l,k,xs,rfl,rfl,hH,hne,h1,h2,hz,q1,q2⟩:=h;cases rx;obtain⟨t,rfl⟩:=ry;obtain⟨its,r,ht,hl⟩:=I.tuple hH;obtain⟨⟨cls,dd,data,sl⟩,e,hc,n,hd⟩:=id ht;simp only at hc hd;subst hc hd;have hlen:its.length*k.toNat<=sizeLine:=by rw[<- r.length];exact hz
 have hin:its≠[]:=fun z=>hne (r.nil_iff.mp z)
 have hnew:List.foldl 28e7 #[] (List.replicate 31e5 2e7)=(List.replicate 31e5 its).flatten.toArray:=by
  have:=qB its 31e5 [];rw[Ti]at this;exact this
 have hk:(its.length:Int)*k=((its.length*k.toNat:Nat):Int):=by
  rw[Int.natCast_mul,UA 0e0]
 refine wpAny_binaryOp_repeat_ref (T:="tuple") (U:="int") 0e4 ⟨_,e,rfl⟩ (fun s'=>SZ s' k t) zb F.fills_int_mul Tj Ag F.slot_int_index.lookup
  (Te Tj (SZ s k t) F.entry_int_rmul (F.args_int_rmul_2 _ _) (xc k t l 2e7 n dd sl) ⟨e,rfl,⟨_,e,rfl⟩,?_⟩)
 by_cases hk1:k=1
 ·subst hk1;exact Te VJ ⟨_,e,rfl⟩ F.entry_tuple_mul (F.args_tuple_mul_2 _ _) (Oj l 2e7 n dd sl t) ⟨e,.ref l,H,I,rfl,q1 rfl⟩
 ·have hie:its.toArray.isEmpty=false:=by cases its with
   |nil=>exact absurd rfl hin
   |cons _ _=>rfl
  refine Te VJ ⟨_,e,rfl⟩ F.entry_tuple_mul (F.args_tuple_mul_2 _ _) (Oi l 2e7 n dd sl k t ?_ ?_ ?_ ?_ ?_ ?_) ⟨e,?_⟩
  ·dsimp[Vz,Vs];omega
  ·rw[hie];simpa using hk1
  ·rw[hie];simp;omega
  ·rw [R0, hk];have:(sizeLine:Nat)<=(2^63-1) / 8:=by decide
   omega
  ·rw[R0,hk];show ¬ decide (((its.length*k.toNat:Nat):Int)>(sizeLine:Int))=true;dsimp[Vs];omega
  ·rw[hnew,R0,wt,Nat.mul_comm];exact hlen
  ·rw[hnew];refine⟨.ref 0e3,_,I.laid (t':=36e9) (o:=.tup (List.replicate 31e5 xs).flatten) 27e1 7e5 ?_,rfl,q2 hk1 _ 18e2⟩;exact⟨by rw[wt,Nat.mul_comm];exact hz,_,r.rep 31e5,SU _ _⟩
end
open Classical in
def uO(a b:D)(Y:aB):ai D:=match a,b with
 |.tup xs,.int k=>if xs≠[]/\1<=k/\k<2^40/\xs.length*k.toNat<=sizeLine then .ok 62e6 Y else .bad
 |_,_=>.bad
section
variable{X:Cx}{a b:Expr}{fb:ME}
theorem Iy:pX p uO (DM p.K):=by
 intro a b v y H Z Y Q S ra rb P;unfold uO at P;split at P
 ·rename_i xs k;split at P
  ·rename_i hc;obtain⟨c1,c2,c3,c4⟩:=hc;obtain⟨a,us,rfl,h1,r1⟩:=aN.mp ra;refine⟨a,k,us,rfl,ax.mp rb,h1,fun e=>c1 (r1.nil_iff'.mp e),c2,c3,by rw[r1.length];exact c4,fun e=>?_,fun _ q hq=>?_⟩
   ·subst e;exact P.now S _ (by simpa using ra)
   ·exact P _ _ 61e0 67e3 _ (aN.mpr ⟨q,_,rfl,fS.of cf,(r1.rep 31e5).mono 61e0⟩)
  ·exact P.elim
 ·exact P.elim
theorem Kr(ha:Bx 4e8)(hb:Bx 9e4)(hK:X.K=p.K:=by rfl):Bx (PE X (.BinOp a .Mult b pos) (tD p (ay uO fa fb))):=⟨nY (r:=DM p.K) (hK ▸ Ig) Iy ha.h hb.h⟩
end
end L2
namespace Lw
open PySem L2
section
structure Nm(mg:Str->Option Value):Prop where
 ValueError:mg "ValueError" = none
 all:mg "all" = none
 bool:mg "bool" = none
 enumerate:mg "enumerate" = none
 int:mg "int" = none
 isinstance:mg "isinstance" = none
 len:mg "len" = none
 list:mg "list" = none
 max:mg "max" = none
 min:mg "min" = none
 range:mg "range" = none
 repr:mg "repr" = none
 set:mg "set" = none
 sorted:mg "sorted" = none
 sum:mg "sum" = none
 tuple:mg "tuple" = none
theorem yY:aX ["thing"] ["thing"] (aw j9):=0e1
def lB:MS:=cJ 50e0
def eC:List D->aB->ai D:=iW 1 1 lB
theorem qO:aX ["thing", "least", "most"] ["thing", "least", "most"] (aw fM):=0e1
def gC:MS:=cJ (gY (aE eC 5e5) (lh 71e1 71e1 3e2 2e3 28e3))
def bq:List D->aB->ai D:=iW 3 3 gC
theorem yZ:aX ["many", "thing"] ["many", "thing"] (aw ka):=0e1
def oB:MS:=cJ (aE bq (ag 3e2 (ag 1e4 (ag (ay dN 2e3 0e9) (aA)))))
def gJ:List D->aB->ai D:=iW 2 2 oB
theorem wN:aX ["many", "thing"] ["many", "thing"] (aw ie):=0e1
theorem ub:(["place", "many"]:List Str).Nodup:=by decide +kernel
def iQ:ME:=aE gJ 67e8
def mI:MS:=cJ (gY (nq 47e8 3e2) (aE uk (ag (cc 75e1 [none,some 0] 18e8 (bj) (iQ)) (aA))))
def cS:List D->aB->ai D:=iW 2 2 mI
theorem wM:aX ["things"] ["things"] (aw ic):=0e1
theorem ua:(["at", "things"]:List Str).Nodup:=by decide +kernel
def kz:ME:=ay 38e8 12e9 16e2
def mH:MS:=cJ (aE uk (ag (cc (fT pZ (ag 0e9 (ag 75e2 (aA)))) [none,some 0] 18e8 (bj) (kz)) (aA)))
def d8:List D->aB->ai D:=iW 1 1 mH
theorem Ad:aX ["thing"] ["thing"] (aw lq):=0e1
def qM:MS:=cJ (aE bq (ag 2e3 (ag 0e9 28e4)))
def fI:List D->aB->ai D:=iW 1 1 qM
theorem Ac:aX ["many", "thing"] ["many", "thing"] (aw lp):=0e1
def qL:MS:=cJ (gY (aE cS 38e9) (gY (ay 16e9 (aE jq 8e7) 9e6) (ay 35e5 24e1 24e2)))
def eR:List D->aB->ai D:=iW 2 2 qL
theorem Ce:aX ["many", "thing"] ["many", "thing"] (aw m8):=0e1
def tG:MS:=cJ (gY (aE eR 38e9) (ay 38e8 24e1 24e2))
def jP:List D->aB->ai D:=iW 2 2 tG
theorem Ab:aX ["many", "thing"] ["many", "thing"] (aw jR):=0e1
theorem xb:(["tie", "many"]:List Str).Nodup:=by decide +kernel
def kl:ME:=aE jP 67e8
def qK:MS:=cJ (gY (nq 47e8 3e2) (gY (aE uk (ag (cc 75e1 [none,some 0] 18e8 (bj) (kl)) (aA))) (aE d8 8e7)))
def iD:List D->aB->ai D:=iW 2 2 qK
theorem mE:aX ["thing", "many", "ties"] ["thing"] (aw j8):=0e1
def oA:MS:=bo (lT (qd (gX (je (nq 47e8 2e3))) (gr (ay 35e5 75e2 9e6))) 29e8 (dU))
 (bo (bx 2e3 (cU 2 (aV (ak 1) (aV 71e2 (cV)))))
 (cJ (gY (aE fI 8e7) (aE iD (ag 3e2 9e5)))))
def gI:List D->aB->ai D:=iW 1 3 oA
theorem qt:aX ["many", "things", "at", "thing"] ["many", "things"] (aw kI):=0e1
theorem zc:(["pair"]:List Str).Nodup:=by decide +kernel
def oz:MS:=lT (gX (je (aE eR (ag 2e3 71e3)))) (GH) (dU)
def tW:ME:=bY 63e9
def lA:MB:=AX (tW)
def yU:MS:=bo (lT (gX (je (aE fI 5e5))) (GH) (dU))
 (bo (lU (fT qY 8e7) (cU 2 21e0) oz)
 (cJ (bY (ag 2e3 (ag (aE eV (ag (aE cX (ag (vZ 75e1 [none] 18e8 (bj) (lA)) (aA))) (aA))) (aA))))))
def mC:List D->aB->ai D:=iW 2 4 yU
theorem tY:aX ["ties", "front"] ["ties", "front"] (aw d4):=0e1
theorem kT:(["a", "b", "front"]:List Str).Nodup:=by decide +kernel
theorem kQ:(["a", "b", "front"]:List Str).Nodup:=by decide +kernel
def lQ:ME:=aj 1
def jk:MT:=gr (ay (vA false) 2e3 28e3)
def lP:ME:=aj 0
def jj:MT:=gr (ay (vA false) 3e2 28e3)
def nP:MS:=cJ (ay bG (cc (fR 2e3) [none,none,some 1] 61e6 (jk) (lQ)) (cc (fR 2e3) [none,none,some 1] 61e6 (jj) (lP)))
def gm:List D->aB->ai D:=iW 2 2 nP
theorem dg:aX ["web", "start", "many", "ties", "fars", "far", "front", "place"] ["web", "start"] (aw ig):=0e1
theorem uc:(["place", "fars"]:List Str).Nodup:=by decide +kernel
def nO:ME:=aj 0
def kx:MT:=gr (ay (xq false) 16e2 32e6)
def gk:MS:=bx (aj 5) (nH 75e3 (aj 7))
def gh:MS:=bo (Dr 5 xN 0e9)
 (bo (bx (cc (fR (aE gm (ag 44e5 (ag (aj 6) (aA))))) [none,some 4] 18e8 (kx) (nO)) (ak 6))
 (lU (fR (aj 6)) (ak 7) gk))
def rD:MS:=bo (bx 2e3 (cU 2 21e0))
 (bo (bx (ay nr (fD 55e9) 28e3) 64e0)
 (bo (bx 1e4 (nH 75e3 3e2))
 (bo (bx 1e4 (ak 5))
 (bo (bx (fD 8e7) (ak 6))
 (bo (qg 100 (je (aj 6)) gh)
 (cJ 75e3))))))
def jc:List D->aB->ai D:=iW 2 8 rD
theorem wL:aX ["thing"] ["thing"] (aw jt):=0e1
def mG:MS:=cJ (gY (aE gI 5e5) (gY (ay 16e9 (aE jq 56e0) (ay dN 11e1 0e9)) (ay (vA true) 32e6 (aE jc (ag 2e3 (ag 1e4 (aA)))))))
def bJ:List D->aB->ai D:=iW 1 1 mG
theorem uw:aX ["thing"] ["thing"] (aw iM):=0e1
def lD:MS:=lT (gX (je (aE (fun ds Y=>(bJ ds Y).nox) 5e5))) (qh "NoTree") (dU)
def eD:List D->aB->ai D:=iW 1 1 lD
theorem iF:aX ["web", "ties", "word", "ends", "least", "last"] ["web"] (aw gF):=0e1
theorem pL:(["tie", "place"]:List Str).Nodup:=by decide +kernel
theorem w9:(["place", "ends"]:List Str).Nodup:=by decide +kernel
theorem w8:(["tie", "least"]:List Str).Nodup:=by decide +kernel
def rC:ME:=aj 1
def ke:MB:=vT (fR 2e3) (ak 1) (bj) (sG (rC))
def ki:ME:=aj 0
def ja:MT:=gr (ay 16e9 (uG m5 3e2 5e5) 0e9)
def kh:ME:=aj 0
def i9:MT:=gr (ay (vA false) 3e2 2e3)
def kf:MS:=bo (bx (oa 75e1 [none,none] 18e8 (bj) (ke)) (ak 3))
 (bo (bx (aE rL (ag (cc (fR 44e5) [none,some 3] 18e8 (ja) (ki)) (aA))) 64e0)
 (bo (bx (ay cv (cc 75e1 [none,some 4] 18e8 (i9) (kh)) 1e4) (ak 5))
 (bo (lH (uG dQ 28e3 (ag (ay dN (aE AY 25e7) 75e3) (aA))))
 (lH (uG jI 3e2 25e7)))))
def ni:MS:=bo (lH (aE eD 5e5))
 (bo (lT (gr (ay 38e8 11e1 41e0)) (qh "NoTree") (dU))
 (bo (bx (aE lL 56e0) (ak 1))
 (bo (bx (fD (aA)) 71e2)
 (bo (qg 100 (gr (ay (dG .Gt) (aE jq 8e7) 0e9)) kf)
 (cJ (aE eV 9e5))))))
def eP:List D->aB->ai D:=iW 1 6 ni
theorem iG:aX ["many", "word", "left", "ties", "at", "place", "least"] ["many", "word"] (aw jQ):=0e1
theorem xa:(["other", "word", "at"]:List Str).Nodup:=by decide +kernel
def kj:ME:=aj 0
def jb:MT:=gr (ay (vA true) 2e3 (xn 3e2 (ix 28e3) (zp)))
def kg:MS:=bo (bx (aE rL (ag (cc (fR 28e3) [none,some 1,some 4] 18e8 (jb) (kj)) (aA))) (ak 6))
 (bo (lH (uG dQ 44e5 (ag (bY (ag (aj 6) 25e7)) (aA))))
 (lH (uG jI 28e3 (ag (aj 6) (aA)))))
def nj:MS:=bo (lT (gX (je (aE (fun ds Y=>(bq ds Y).nox) (ag 2e3 (ag 41e0 28e4))))) (qh "NoNumber") (dU))
 (bo (lT (qd (gX (je (aE (fun ds Y=>(cS ds Y).nox) 38e9))) 58e2) (qh "NoTree") (dU))
 (bo (bx (aE lg 5e5) 71e2)
 (bo 64e1
 (bo (lU (fT qY 8e7) (cU 2 (aV 64e0 (aV (ak 5) (cV)))) kg)
 (cJ (aE (fun ds Y=>(mC ds Y).nox) (ag 2e3 (ag (ay bG 44e5 (fD (ag (aE eV 9e5) (aA)))) (aA)))))))))
def eQ:List D->aB->ai D:=iW 2 7 nj
theorem rP:aX ["_law_script", "_law_k"] ["_law_script", "_law_k"] (aw gA):=0e1
def jU:MS:=bo (lT (gr (ay 38e8 3e2 75e2)) (cJ (ay cv 2e3 3e2)) (dU))
 (cJ 1e4)
def fB:List D->aB->ai D:=iW 2 2 jU
theorem pI:aX ["_law_seed"] ["_law_seed"] (aw jv):=0e1
def rF:MS:=bo (bx (ay uj (ay bG 2e3 (cC (.int 7919))) (cC (.int 2147483647))) 18e8)
 (cJ (ay uj (ay bG (ay bG (ay nr 2e3 2e3) (ay nr (cC (.int 48271)) 2e3)) (cC (.int 12345))) (cC (.int 2147483629))))
def gT:List D->aB->ai D:=iW 1 1 rF
theorem mL:aX ["_law_cell", "_law_left"] ["_law_cell"] (aw il):=0e1
def nQ:MS:=bo (bx (aE xp (ag 2e3 (ag (ay dN 1e4 2e3) (aA)))) (ak 1))
 (cJ (fD (ag 3e2 (ag (aE qZ (ag (ay (dG .GtE) 3e2 (ay Dw (cC (.int 10)) (cC (.int 18)))) (aA))) (ag (ay uj 3e2 (cC (.int 1000003))) (aA))))))
def gp:List D->aB->ai D:=iW 1 2 nQ
theorem pJ:aX ["_law_pen", "_law_many", "_law_found"] ["_law_pen", "_law_many"] (aw jw):=0e1
def mK:MS:=bo (lT (gr (ay 16e9 20e0 0e9)) (bo (bx (ay uj 11e1 3e2) 71e2)
 (bo (bx (ay xO 11e1 3e2) (nH 2e3 1e4))
 (cJ 28e3))) (dU))
 (bo (bx (aE gT (ag (ay bG (aE gT (ag (ay cv 2e3 9e6) (aA))) (cC (.int 7))) (aA))) (nH 2e3 9e6))
 (cJ (ay uj (ay xO (ay cv 2e3 9e6) (cC (.int 64))) 3e2)))
def aM:List D->aB->ai D:=iW 2 3 mK
theorem ux:aX ["_law_found"] ["_law_found"] (aw iN):=0e1
def xi:MS:=cJ 50e0
def fL:List D->aB->ai D:=iW 1 1 xi
theorem ji:aX ["_law_e", "_law_marks"] ["_law_e"] (aw gy):=0e1
def mR:MS:=bo (bx (fD (ag 10e3 (ag (nq (nV ["NoNumber"] ["NoNumber", "NoTree"]) 2e3) (ag 10e3 (ag 10e3 (aA)))))) (ak 1))
 (bo (bx (ay bG 3e2 (fD (ag (nq (nV ["NoTree"] ["NoNumber", "NoTree"]) 2e3) (ag 10e3 (ag 10e3 (ag 10e3 (aA))))))) (ak 1))
 (bo (lT (qd (gX (je (nq (nV ["NoNumber", "NoTree"] ["NoNumber", "NoTree"]) 2e3))) (gr (ay 35e5 (uG mZ 3e2 (ag (cC 5e9) (aA))) 0e9))) (cJ (cC (.str "other"))) (dU))
 (cJ (ay cv (fD (ag (cC (.str "place")) (ag (cC 32e1) (ag (cC (.str "line")) (ag (cC (.str "root")) (ag (cC 23e1) (ag (cC (.str "web")) (ag (cC (.str "text")) (ag (cC (.str "great")) (aA)))))))))) (uG mY 3e2 (ag (cC 5e9) (aA)))))))
def cT:List D->aB->ai D:=iW 1 2 mR
theorem nK:aX ["_law_web", "_law_names", "_law_ties"] ["_law_web", "_law_names"] (aw eS):=0e1
theorem lN:(["_law_one", "_law_other", "_law_names"]:List Str).Nodup:=by decide +kernel
theorem rX:(["_law_tie"]:List Str).Nodup:=by decide +kernel
def dq:ME:=bY (ag (ay cv 28e3 2e3) (ag (ay cv 28e3 3e2) (aA)))
def dn:ME:=bY 63e9
def lE:MS:=bo (bx (cc (fR 20e0) [none,none,some 1] 61e6 (bj) (dq)) 71e2)
 (cJ (bY (ag 11e1 (ag (aE eV (ag (aE cX (ag (aE oJ (ag (cc (fR 28e3) [none] 18e8 (bj) (dn)) (aA))) (aA))) (aA))) (aA)))))
def dh:List D->aB->ai D:=iW 2 3 lE
theorem kP:aX ["_law_pen", "_law_many", "_law_left"] ["_law_pen", "_law_many"] (aw d5):=0e1
theorem oD:(["_law_place", "_law_left", "_law_pen"]:List Str).Nodup:=by decide +kernel
def ff:ME:=uG sP 3e2 (ag (aE aM (ag 28e3 (ag (aE jq 8e7) (aA)))) (aA))
def lR:MS:=bo (bx (aE lg 8e7) 71e2)
 (cJ (aE eV (ag (cc (fT kr 8e7) [none,some 2,some 0] 18e8 (bj) (ff)) (aA))))
def cZ:List D->aB->ai D:=iW 2 3 lR
theorem dC:aX ["_law_web", "_law_many", "_law_far_here", "_law_place", "_law_size", "_law_one", "_law_other", "_law_a", "_law_b"] ["_law_web"] (aw i6):=0e1
theorem uC:(["_law_place", "_law_many"]:List Str).Nodup:=by decide +kernel
def ij:ME:=ay nr (fD 55e9) 3e2
def lC:MS:=lT (lM (gr (ay 16e9 (ay cv 57e4 (aj 7)) (ay dN 75e3 0e9))) (gr (ay (xq false) (ay cv 57e4 (aj 8)) 32e6))) (bx 75e3 (nH 57e4 (aj 8))) (dU)
def jB:MS:=lU (fR (fD (ag (bY (ag (aj 5) (ag (aj 6) (aA)))) (ag (bY (ag (aj 6) 25e7)) (aA))))) (cU 2 (aV (ak 7) (aV (ak 8) (cV)))) lC
def jA:MS:=lU (fR 20e0) (cU 2 (aV (ak 5) (aV (ak 6) (cV)))) jB
def jz:MS:=bo (bx 1e4 (nH 57e4 44e5))
 (lU (fT pZ (ag 0e9 8e7)) 64e0 jA)
def tX:MS:=bo (bx 11e1 (ak 1))
 (bo (bx (cc (fT kr 8e7) [none,some 1] 18e8 (bj) (ij)) 71e2)
 (bo (lU (fT kr 8e7) (ak 3) jz)
 (cJ 28e3)))
def fu:List D->aB->ai D:=iW 1 9 tX
theorem f9:aX ["_law_web", "_law_k", "_law_far_here", "_law_ties", "_law_one"] ["_law_web", "_law_k"] (aw f7):=0e1
theorem rW:(["_law_b", "_law_one", "_law_k", "_law_far_here"]:List Str).Nodup:=by decide +kernel
def iq:ME:=bY 67e8
def fv:MT:=lM (gr (ay (xq true) (ay cv (ay cv 44e5 3e2) 2e3) 32e6)) (gr (ay 71e1 (ay cv (ay cv 44e5 3e2) 2e3) 28e3))
def ip:MS:=bx (ay bG 44e5 (cc (fT pZ (ag (ay bG 75e3 0e9) 56e1)) [none,some 4,some 1,some 2] 18e8 (fv) (iq))) (ak 3)
def pO:MS:=bo (bx (aE fu 5e5) 71e2)
 (bo 64e1
 (bo (lU (fT kr 56e1) 64e0 ip)
 (cJ (bY (ag 11e1 (ag (aE eV 71e3) (aA)))))))
def eE:List D->aB->ai D:=iW 2 5 pO
theorem br:aX ["_law_pen", "_law_way", "_law_many", "_law_every", "_law_other", "_law_ties"] ["_law_pen"] (aw bz):=0e1
theorem nE:(["_law_one", "_law_other"]:List Str).Nodup:=by decide +kernel
theorem nD:(["_law_pair", "_law_pen"]:List Str).Nodup:=by decide +kernel
theorem nC:(["_law_pair", "_law_pen"]:List Str).Nodup:=by decide +kernel
theorem nB:(["_law_place"]:List Str).Nodup:=by decide +kernel
theorem nA:(["_law_place"]:List Str).Nodup:=by decide +kernel
theorem nz:(["_law_place"]:List Str).Nodup:=by decide +kernel
theorem ny:(["_law_place", "_law_pen"]:List Str).Nodup:=by decide +kernel
def jV:ME:=bY 38e9
def eF:MS:=bx (ay bG 44e5 (cc (fT kr 25e8) [none,some 4] 18e8 (bj) (jV))) (ak 3)
def gP:ME:=aj 0
def gL:MT:=gr (ay 16e9 (aE aM (ag 3e2 (ag 9e6 (aA)))) 1e4)
def gO:ME:=aj 0
def gK:MT:=gr (ay 16e9 (aE aM (ag 3e2 (ag 41e0 (aA)))) 1e4)
def eH:ME:=bY 71e4
def gN:ME:=bY 71e4
def eG:ME:=bY (ag 1e4 5e5)
def dc:ME:=bY (ag (aE aM 67e8) 5e5)
def kW:MS:=bo (bx (aE aM (ag 2e3 (ag (cC (.int 7)) (aA)))) (ak 1))
 (bo (bx (ay bG 0e9 64e2) 71e2)
 (bo 64e1
 (bo (lU (fT kr 9e5) 64e0 eF)
 (bo 2e0
 (cJ (aE dh (ag (bY (ag 28e3 (ag (aE eV 25e7) (aA)))) (ag (aE cZ (ag 2e3 9e5)) (aA)))))))))
def d7:List D->aB->ai D:=iW 1 6 kW
theorem dk:aX ["_law_pen", "_law_web", "_law_way", "_law_spot", "_law_one", "_law_pair"] ["_law_pen"] (aw ik):=0e1
def iU:MS:=bo (bx (aE d7 5e5) (ak 1))
 (bo (bx 64e2 71e2)
 (bo (lT (gr (ay 38e8 28e3 41e0)) 58e3 (dU))
 (bo (lT (lM (gr (ay 16e9 28e3 1e4)) (gr (ay 35e5 24e2 (bY (aA))))) (bo (bx (aE aM (ag 2e3 (ag (aE jq (ag 24e2 (aA))) (aA)))) (ak 3))
 (cJ (bY (ag 24e1 (ag (ay bG (xn 24e2 (zp) (ix 44e5)) (xn 24e2 64e3 (zp))) (aA)))))) (dU))
 (bo (lT (lM (gr (ay 16e9 28e3 0e9)) (gr (ay (dG .Gt) 24e1 0e9))) (bo (bx (aE aM (ag 2e3 (ag 24e1 (aA)))) 64e0)
 (bo (bx (aE eV (ag (aE cX (ag (bY (ag 75e3 (ag (ay uj (ay bG (ay bG 75e3 0e9) (aE aM (ag 2e3 (ag (ay dN 24e1 0e9) (aA))))) 24e1) (aA)))) (aA))) (aA))) (ak 5))
 (cJ (bY (ag 24e1 (ag (aE eV (ag (aE cX (ag (aE oJ (ag (ay bG 24e2 (bY 25e7)) (aA))) (aA))) (aA))) (aA))))))) (dU))
 (cJ 3e2)))))
def gn:List D->aB->ai D:=iW 1 6 iU
theorem jh:aX ["_law_pen", "_law_many", "_law_ties"] ["_law_pen"] (aw eM):=0e1
theorem pS:(["_law_place", "_law_pen"]:List Str).Nodup:=by decide +kernel
def fN:ME:=bY (ag (aE aM 67e8) 5e5)
def mP:MS:=bo (bx (ay bG 0e9 64e2) (ak 1))
 (bo (bx (cc (fT pZ (ag 0e9 8e7)) [none,some 0] 18e8 (bj) (fN)) 71e2)
 (cJ (aE dh (ag (bY (ag 3e2 (ag (aE eV 9e5) (aA)))) (ag (aE cZ 38e9) (aA))))))
def fw:List D->aB->ai D:=iW 1 3 mP
theorem dz:aX ["_law_pen", "_law_web", "_law_many", "_law_ties", "_law_spot", "_law_some"] ["_law_pen", "_law_web"] (aw gx):=0e1
def mQ:MS:=bo (bx 3e2 (cU 2 21e0))
 (bo (bx (aE aM (ag 2e3 (ag (ay bG (aE jq 71e3) 0e9) (aA)))) 64e0)
 (bo (bx (fD 4e9) (ak 5))
 (bo (bx (ay bG (aj 5) 5e2) (ak 5))
 (bo (lH (uG dQ (aj 5) (ag (bY (ag (cC (.int 4)) (ag (bY (ag (bY (ag 1e4 (ag 0e9 (aA)))) (ag (bY (ag 1e4 (ag 9e6 (aA)))) (ag (bY (ag 0e9 (ag 9e6 (aA)))) (aA))))) (aA)))) (aA))))
 (cJ (ay cv (aj 5) (aE aM (ag 2e3 (ag (cC (.int 12)) (aA))))))))))
def fA:List D->aB->ai D:=iW 2 6 mQ
theorem rO:aX ["_law_thing"] ["_law_thing"] (aw eN):=0e1
theorem km:(["_law_one", "_law_other", "_law_thing"]:List Str).Nodup:=by decide +kernel
def fO:ME:=sj 71e1 38e8 38e8 1e4 2e3 3e2 (ay cv 28e3 1e4)
def fC:MS:=bo (lT (qd (gX (je (nq 47e8 2e3))) (qd (gr (ay 35e5 75e2 9e6)) (qd (gX (je (aE fL 56e1))) (gX (gr (lh 71e1 71e1 0e9 11e1 (cC (.int 6)))))))) 29e8 (dU))
 (bo (lT (qd (gX (je (nq 47e8 20e0))) (qd (gr (ay 35e5 (aE jq 56e0) (ay dN 11e1 0e9))) (gr (ay 35e5 (aE lL 56e0) (aE cX (ag (aE oJ 56e0) (aA))))))) 29e8 (dU))
 (bo (lT (gX (je (aE uk (ag (cc (fR 20e0) [none,none,some 0] 61e6 (bj) (fO)) (aA))))) 29e8 (dU))
 (cJ (ay (vA true) 32e6 (ay cv (aE fu 5e5) 1e4)))))
def bh:List D->aB->ai D:=iW 1 1 fC
theorem fK:aX ["_law_web", "_law_near", "_law_found", "_law_turn", "_law_least", "_law_other"] ["_law_web"] (aw fJ):=0e1
theorem ue:(["_law_place", "_law_web"]:List Str).Nodup:=by decide +kernel
theorem mM:(["_law_one", "_law_other", "_law_place"]:List Str).Nodup:=by decide +kernel
theorem ud:(["_law_place", "_law_near"]:List Str).Nodup:=by decide +kernel
def iT:ME:=ay dN (ay bG 2e3 3e2) 28e3
def iO:MT:=gr (ay (vA false) 28e3 (bY 38e9))
def iS:ME:=cc (fR 24e2) [none,none,some 0] 61e6 (iO) (iT)
def iR:ME:=aj 0
def gb:MT:=gr (ay 16e9 (aE jq (ag 16e2 (aA))) 0e9)
def iP:MS:=bo (bx (ay cv (cc (fT kr 56e1) [none,some 1] 18e8 (gb) (iR)) 1e4) 64e0)
 (bo (bx (ay cv (ay cv 3e2 75e3) 1e4) (ak 5))
 (bo (lH (uG dQ 28e3 25e7))
 (bo (lH (uG jI (ay cv 3e2 75e3) 25e7))
 (lH (uG jI (ay cv 3e2 (aj 5)) 25e8)))))
def rE:MS:=bo (bx (cc (fT kr 56e1) [none,some 0] 18e8 (bj) (iS)) (ak 1))
 (bo (bx (fD (aA)) 71e2)
 (bo (lU (fT kr (ag (ay dN 11e1 9e6) (aA))) (ak 3) iP)
 (cJ (aE eV 9e5))))
def dE:List D->aB->ai D:=iW 1 6 rE
theorem pH:aX ["_law_way", "_law_one", "_law_other", "_law_e"] ["_law_way", "_law_one", "_law_other"] (aw ju):=0e1
def dJ:MS:=cJ (J3 (gr (ay 16e9 2e3 1e4)) (aE eP 8e7) (aE eQ (ag 3e2 9e5)))
def nN:MS:=cJ (aE cT 71e3)
def mJ:MS:=Dq ["NoNumber", "NoTree"] 3 4 dJ nN
def bX:List D->aB->ai D:=iW 3 4 mJ
theorem pP:aX ["_law_many", "_law_thing"] ["_law_many", "_law_thing"] (aw dF):=0e1
theorem nv:(["_law_one", "_law_many"]:List Str).Nodup:=by decide +kernel
def gM:ME:=gY (aE fL 5e5) (lh 71e1 38e8 1e4 2e3 3e2)
def kU:MS:=bo (lT (qd (gX (je (nq 47e8 3e2))) 58e2) 29e8 (dU))
 (cJ (aE uk (ag (cc 75e1 [none,some 0] 18e8 (bj) (gM)) (aA))))
def d6:List D->aB->ai D:=iW 2 2 kU
theorem jo:aX ["_law_many", "_law_thing", "_law_found"] ["_law_many", "_law_thing"] (aw dR):=0e1
def gQ:MS:=bo (bx (aE bX (ag 0e9 38e9)) 71e2)
 (bo (lT (gX (je (aE d6 38e9))) (cJ (ay 16e9 28e3 (cC 23e1))) (dU))
 (cJ (gY (nq 47e8 28e3) (gY (ay 16e9 (ay cv 28e3 1e4) 2e3) (gY (aE bh 9e5) (ay 16e9 (aE dE 9e5) 3e2))))))
def cM:List D->aB->ai D:=iW 2 3 gQ
theorem jy:aX ["_law_word_here", "_law_many", "_law_pen", "_law_spot", "_law_odd", "_law_some"] ["_law_word_here", "_law_many", "_law_pen"] (aw jx):=0e1
def rG:MS:=bo (bx (aE aM (ag 28e3 (ag (ay bG 75e2 0e9) (aA)))) (ak 3))
 (bo (bx (ay cv (fD (ag 3e2 (ag (nq vJ 0e9) (ag (cC 5e9) (ag 32e6 (ag (cC (.str "0")) (ag (bY (ag 1e4 (aA))) (ag (aE aM (ag 28e3 8e7)) (aA))))))))) (aE aM (ag 28e3 (ag (cC (.int 7)) (aA))))) 64e0)
 (bo (bx (fD (ag (ay bG (ay bG 58e4 (bY 25e8)) (xn 2e3 64e3 (zp))) (ag (ay bG (ay bG 58e4 (bY 25e8)) (xn 2e3 (ix 44e5) (zp))) (ag (ay bG 58e4 (xn 2e3 64e3 (zp))) (aA))))) (ak 5))
 (cJ (ay cv (ay bG (aj 5) (fD (ag (aE lL 5e5) (ag 32e6 (ag 1e4 (ag (bY 5e5) (ag (ay oQ 2e3 (nq vJ 0e9)) (aA)))))))) (aE aM (ag 28e3 (ag (cC (.int 8)) (aA))))))))
def d9:List D->aB->ai D:=iW 3 6 rG
theorem jg:aX ["_law_script", "_law_cell", "_law_pen", "_law_web", "_law_thing", "_law_found", "_law_due", "_law_word_here", "_law_many", "_law_bad"] ["_law_script"] (aw k9):=0e1
theorem FP:(["_law_turn", "_law_pen", "_law_web"]:List Str).Nodup:=by decide +kernel
theorem FO:(["_law_turn", "_law_pen", "_law_many"]:List Str).Nodup:=by decide +kernel
def oZ:ME:=aE fA (ag 3e2 9e5)
def m7:MS:=bo (bx (aE bJ 25e8) (ak 5))
 (bo (bx (aE bh 25e8) (ak 6))
 (bo (lT (qd (gX (je (nq (eT "bool") (aj 5)))) (gr (ay 35e5 (aj 5) (aj 6)))) 29e8 (dU))
 (bo (bx (J3 17e0 (aE dE 25e8) (cC 23e1)) (ak 7))
 (lT (gr (ay (Dx true) (aE kv (ag (aE bX (ag 1e4 (ag 75e3 55e9))) (aA))) (aE kv (ag (aj 7) (aA))))) 29e8 (dU)))))
def oY:ME:=aE aM (ag 3e2 9e5)
def oX:MS:=lT (gX (je (aE cM (ag (aj 8) 25e8)))) 29e8 (dU)
def sr:MS:=lT (gr (ay 35e5 (aE bX (ag 0e9 (ag (aj 9) 55e9))) (cC 32e1))) 29e8 (dU)
def so:MS:=bo (bx (aE gp 8e7) 71e2)
 (bo (bx (aE fw 9e5) (ak 3))
 (bo (lU (fR (ay bG (fD (ag 44e5 (ag (aE gn 9e5) (aA)))) (cc (fT kr (ag (cC (.int 4)) (aA))) [none,some 2,some 3] 18e8 (bj) (oZ)))) 64e0 m7)
 (bo (bx (ay bG 41e0 (aE aM (ag 28e3 (ag (cC (.int 4)) (aA))))) (ak 8))
 (bo (bx (aE eV (ag (cc (fT kr (ag (ay dN (aj 8) 9e6) (aA))) [none,some 2,some 8] 18e8 (bj) (oY)) (aA))) (ak 7))
 (bo (lU (fR (fD (ag (aj 7) (ag 68e9 (ag 68e9 (ag (ay uO (bY (ag 1e4 (aA))) (ay dN (aj 8) 9e6)) (aA))))))) 64e0 oX)
 (lU (fR (fD (ag 9e6 (ag (cC (.int 7)) (ag (nq vJ 0e9) (ag (cC 5e9) (ag 32e6 (ag (cC (.str "3")) (ag (bY (ag 41e0 (aA))) (ag (ay Dw (cC (.int 10)) (cC (.int 20))) (aA))))))))))) (ak 9) sr))))))
def JY:MS:=bo (lU (fR (ay bG (fD (ag (aE fB (ag 2e3 (ag 1e4 (aA)))) (aA))) (xn 2e3 (ix 0e9) (ix (cC (.int 5)))))) (ak 1) so)
 (cJ (cC 5e9))
def xW:List D->aB->ai D:=iW 1 10 JY
theorem y6(nm:Nm mg)(F:ir K "is_whole" "is_whole" j9 f fd)(hm:mg "is_whole" = some 4e6):dy P w K mg base 2e5 1 "is_whole" 1 eC:=
 c8 F yY rfl hm 1e9 fun cdv A outer s H E hr=>
 aT 14e0
theorem qP(nm:Nm mg)(F:ir K "is_whole_from" "is_whole_from" fM f fd)(hm:mg "is_whole_from" = some 4e6)(d_is_whole:dy P w K mg base 2e5 1 "is_whole" 1 eC):dy P w K mg base 2e5 2 "is_whole_from" 3 bq:=
 c8 F qO rfl hm 26e4 fun cdv A outer s H E hr=>
 aT (bH (jm (aW d_is_whole 1e5 5e6) (l5 (Jw 23e2 23e2 8e8 2e6 24e4))))
theorem y8(nm:Nm mg)(F:ir K "is_place" "is_place" ka f fd)(hm:mg "is_place" = some 4e6)(d_is_whole_from:dy P w K mg base 2e5 2 "is_whole_from" 3 bq):dy P w K mg base 2e5 3 "is_place" 2 gJ:=
 c8 F yZ rfl hm 1e6 fun cdv A outer s H E hr=>
 aT (bH (aW d_is_whole_from 1e5 (aJ 8e8 (aJ (bA) (aJ (iY 2e6 (bA)) (aY))))))
theorem wR(nm:Nm mg)(F:ir K "is_places" "is_places" ie f fd)(hm:mg "is_places" = some 4e6)(d_is_place:dy P w K mg base 2e5 3 "is_place" 2 gJ):dy P w K mg base 2e5 4 "is_places" 2 cS:=
 c8 F wN rfl hm 1e6 fun cdv A outer s H E hr=>
 aT (bH (jm 16e3 (l5 (bB xQ nm.all (aJ (dW (bN (N:=["many", "thing"]) (sc:=aw ie) (Nc:=["place", "many"]) (cap:=[none,some 0]) rfl rfl 1e0) (rH 8e8) (fun _ _ _ _ _=>gU 0 ub) 5e3 (fun _ _ _ _ _=>aW d_is_place 1e5 (aJ 8e8 5e6))) (aY))))))
theorem wQ(nm:Nm mg)(F:ir K "is_rising" "is_rising" ic f fd)(hm:mg "is_rising" = some 4e6):dy P w K mg base 2e5 1 "is_rising" 1 d8:=
 c8 F wM rfl hm 1e9 fun cdv A outer s H E hr=>
 aT (bH (bB xQ nm.all (aJ (dW (bN (N:=["things"]) (sc:=aw ic) (Nc:=["at", "things"]) (cap:=[none,some 0]) rfl rfl 1e0) (BL nm.range (aJ (bA) (aJ 39e0 (aY)))) (fun _ _ _ _ _=>gU 0 ua) 5e3 (fun _ _ _ _ _=>lG 20e4 (bP 8e8 (iY 2e6 (bA))) (bP 8e8 2e6))) (aY))))
theorem Ao(nm:Nm mg)(F:ir K "is_many" "is_many" lq f fd)(hm:mg "is_many" = some 4e6)(c_MOST_PLACES:∃t,mg "MOST_PLACES" = some (.int 6 t))(d_is_whole_from:dy P w K mg base 2e5 2 "is_whole_from" 3 bq):dy P w K mg base 2e5 3 "is_many" 1 fI:=
 c8 F Ad rfl hm 1e9 fun cdv A outer s H E hr=>
 aT (bH (aW d_is_whole_from 1e5 (aJ 2e6 (aJ (bA) (aJ (GF c_MOST_PLACES) (aY))))))
theorem An(nm:Nm mg)(F:ir K "is_pair" "is_pair" lp f fd)(hm:mg "is_pair" = some 4e6)(d_is_places:dy P w K mg base 2e5 4 "is_places" 2 cS):dy P w K mg base 2e5 5 "is_pair" 2 eR:=
 c8 F Ac rfl hm 1e6 fun cdv A outer s H E hr=>
 aT (bH (jm (aW d_is_places 1e5 39e1) (jm (lG 29e9 39e2 (bA)) (l5 (lG 56e2 13e4 13e4)))))
theorem Cz(nm:Nm mg)(F:ir K "is_tie" "is_tie" m8 f fd)(hm:mg "is_tie" = some 4e6)(d_is_pair:dy P w K mg base 2e5 5 "is_pair" 2 eR):dy P w K mg base 2e5 6 "is_tie" 2 jP:=
 c8 F Ce rfl hm 1e6 fun cdv A outer s H E hr=>
 aT (bH (jm (aW d_is_pair 1e5 39e1) (l5 (lG 20e4 13e4 13e4))))
theorem Am(nm:Nm mg)(F:ir K "is_ties" "is_ties" jR f fd)(hm:mg "is_ties" = some 4e6)(d_is_tie:dy P w K mg base 2e5 6 "is_tie" 2 jP)(d_is_rising:dy P w K mg base 2e5 1 "is_rising" 1 d8):dy P w K mg base 2e5 7 "is_ties" 2 iD:=
 c8 F Ab rfl hm 1e6 fun cdv A outer s H E hr=>
 aT (bH (jm 16e3 (jm (bB xQ nm.all (aJ (dW (bN (N:=["many", "thing"]) (sc:=aw jR) (Nc:=["tie", "many"]) (cap:=[none,some 0]) rfl rfl 1e0) (rH 8e8) (fun _ _ _ _ _=>gU 0 xb) 5e3 (fun _ _ _ _ _=>aW d_is_tie 1e5 (aJ 8e8 5e6))) (aY))) (l5 (aW d_is_rising 1e5 4e0)))))
theorem y0(nm:Nm mg)(F:ir K "web_good" "web_good" j8 f fd)(hm:mg "web_good" = some 4e6)(d_is_many:dy P w K mg base 2e5 3 "is_many" 1 fI)(d_is_ties:dy P w K mg base 2e5 7 "is_ties" 2 iD):dy P w K mg base 2e5 8 "web_good" 1 gI:=
 c8 F mE rfl hm 1e9 fun cdv A outer s H E hr=>
 aK (iu (rJ (ui 32e8 (sD (cn 56e2 39e0 (bA))))) 27e5 (fg))
 (aK (oN 2e6 (lI (de (gU 1 mE.nd) (de (gU 2 mE.nd) (lJ)))))
 (aT (bH (jm (aW d_is_many 1e5 4e0) (l5 (aW d_is_ties 1e5 (aJ 8e8 7e1)))))))
theorem Cy(nm:Nm mg)(F:ir K "web_of" "web_of" kI f fd)(hm:mg "web_of" = some 4e6)(d_is_many:dy P w K mg base 2e5 3 "is_many" 1 fI)(d_is_pair:dy P w K mg base 2e5 5 "is_pair" 2 eR):dy P w K mg base 2e5 6 "web_of" 2 mC:=
 c8 F qt rfl hm 1e6 fun cdv A outer s H E hr=>
 aK (iu (jl (xl (aW d_is_many 1e5 5e6))) (aT (A1)) (fg))
 (aK (jY VL (NZ nm.enumerate 4e0) (lI (de (gU 2 qt.nd) (de (gU 3 qt.nd) (lJ)))) (aT (iu (jl (xl (aW d_is_pair 1e5 (aJ 2e6 30e0)))) (aT (A1)) (fg))))
 (aT (bH (bQ (aJ 2e6 (aJ (bB gv nm.tuple (aJ (bB mB nm.sorted (aJ (G0 (bN (N:=["many", "things", "at", "thing"]) (sc:=aw kI) (Nc:=["pair"]) (cap:=[none]) rfl rfl 1e0) (rH 8e8) (fun _ _ _ _ _=>gU 0 zc) 5e3 (fun _ _ _ _ _ _=>Pb rfl 4e5 (bQ 47e9))) (aY))) (aY))) (aY)))))))
theorem tZ(nm:Nm mg)(F:ir K "next_places" "next_places" d4 f fd)(hm:mg "next_places" = some 4e6):dy P w K mg base 2e5 1 "next_places" 2 gm:=
 c8 F tY rfl hm 1e6 fun cdv A outer s H E hr=>
 aT (bH (cw (dW 20e1 (rH 2e6) (fun _ _ _ _ _=>lI (de (gU 0 kT) (de (gU 1 kT) (lJ)))) (fun _ _ _ _ _=>lZ (cn (GI 4e5) 2e6 24e4)) (fun _ _ _ _ _=>aF 1)) (dW 20e1 (rH 2e6) (fun _ _ _ _ _=>lI (de (gU 0 kQ) (de (gU 1 kQ) (lJ)))) (fun _ _ _ _ _=>lZ (cn (GI 4e5) 8e8 24e4)) 15e1)))
theorem wU(nm:Nm mg)(F:ir K "fars_from" "fars_from" ig f fd)(hm:mg "fars_from" = some 4e6)(d_next_places:dy P w K mg base 2e5 1 "next_places" 2 gm):dy P w K mg base 2e5 2 "fars_from" 2 jc:=
 c8 F dg rfl hm 1e6 fun cdv A outer s H E hr=>
 aK (oN 2e6 (lI (de (gU 2 dg.nd) (de (gU 3 dg.nd) (lJ)))))
 (aK (bL 4 dg.nd (xD (eJ 71e5) 24e4))
 (aK (oN (bA) (uN 75e4 8e8))
 (aK (bL 5 dg.nd (bA))
 (aK (bL 6 dg.nd (eJ 4e0))
 (aK (Be 100 VL (xl (aF 6)) (aK (OJ 5 dg.nd (bA))
 (aK (la 6 dg.nd (bN (N:=["web", "start", "many", "ties", "fars", "far", "front", "place"]) (sc:=aw ig) (Nc:=["place", "fars"]) (cap:=[none,some 4]) rfl rfl 1e0) (rH (aW d_next_places 1e5 (aJ 42e3 (aJ (aF 6) (aY))))) (fun _ _ _ _ _=>gU 0 uc) (fun _ _ _ _ _=>lZ (cn (JT) (bP 8e8 2e6) (BF))) 15e1)
 (aT (jY VL (rH (aF 6)) (gU 7 dg.nd) (aT (oN (aF 5) (uN 75e4 (aF 7)))))))))
 (aT (bH 75e4)))))))
theorem wO(nm:Nm mg)(F:ir K "tree_good" "tree_good" jt f fd)(hm:mg "tree_good" = some 4e6)(d_web_good:dy P w K mg base 2e5 8 "web_good" 1 gI)(d_fars_from:dy P w K mg base 2e5 2 "fars_from" 2 jc):dy P w K mg base 2e5 9 "tree_good" 1 bJ:=
 c8 F wL rfl hm 1e9 fun cdv A outer s H E hr=>
 aT (bH (jm (aW d_web_good 1e5 5e6) (jm (lG 29e9 (bB jJ nm.len 23e3) (iY 6e3 (bA))) (l5 (lG (DS 4e5) (BF) (aW d_fars_from 1e5 (aJ 2e6 6e7)))))))
theorem uy(nm:Nm mg)(F:ir K "check_tree" "check_tree" iM f fd)(hm:mg "check_tree" = some 4e6)(k_NoTree:W.nsIn K mainGlobals "NoTree" = some (some 52e0))(o_NoTree:rM mg base "NoTree" a_NoTree)(d_tree_good:dy P w K mg base 2e5 9 "tree_good" 1 bJ):xB P w K mg base 10 "check_tree" 1 eD:=
 zG F uw rfl hm 1e9 fun cdv A outer s H E hr=>
 aT (iu (jl (xl (r9 d_tree_good 1e5 5e6))) 50e1 (fg))
theorem Ak(nm:Nm mg)(F:ir K "word_of" "word_of" gF f fd)(hm:mg "word_of" = some 4e6)(c_LEAST_WORDED:∃t,mg "LEAST_WORDED" = some (.int 3 t))(k_NoTree:W.nsIn K mainGlobals "NoTree" = some (some 52e0))(o_NoTree:rM mg base "NoTree" a_NoTree)(d_check_tree:xB P w K mg base 10 "check_tree" 1 eD):xB P w K mg base 11 "word_of" 1 eP:=
 zG F iF rfl hm 1e9 fun cdv A outer s H E hr=>
 aK (lb (v7 d_check_tree OX 1e5 5e6))
 (aK (iu (cn 20e4 6e3 (GF c_LEAST_WORDED)) 50e1 (fg))
 (aK (bL 1 iF.nd (bB v5 nm.list 23e3))
 (aK (bL 2 iF.nd (eJ (aY)))
 (aK (Be 100 PassesOwn.leaving (cn 54e2 39e2 (bA)) (aK (bL 3 iF.nd (G4 (bN (N:=["web", "ties", "word", "ends", "least", "last"]) (sc:=aw gF) (Nc:=["tie", "place"]) (cap:=[none,none]) rfl rfl 1e0) (rH 8e8) (fun _ _ _ _ _=>gU 0 pL) 5e3 (fun _ _ _ _ _ _=>Qw rfl (rH 2e6) (gU 1 pL) (fU) (Qx rfl 8e8))))
 (aK (bL 4 iF.nd (bB A0 nm.min (aJ (dW (bN (N:=["web", "ties", "word", "ends", "least", "last"]) (sc:=aw gF) (Nc:=["place", "ends"]) (cap:=[none,some 3]) rfl rfl 1e0) (rH 42e3) (fun _ _ _ _ _=>gU 0 w9) (fun _ _ _ _ _=>lZ (cn 29e9 (Kt 4e5 8e8 5e6) (bA))) 15e1) (aY))))
 (aK (bL 5 iF.nd (bP (dW (bN (N:=["web", "ties", "word", "ends", "least", "last"]) (sc:=aw gF) (Nc:=["tie", "least"]) (cap:=[none,some 4]) rfl rfl 1e0) (rH 8e8) (fun _ _ _ _ _=>gU 0 w8) (fun _ _ _ _ _=>lZ (cn (GI 4e5) 8e8 2e6)) 15e1) (bA)))
 (aK (lb (AU 24e4 (aJ (iY (bB Ng nm.sum 25e9) 75e4) (aY))))
 (aT (lb (vM 4e5 8e8 25e9))))))))
 (aT (bH 48e0))))))
theorem Al(nm:Nm mg)(F:ir K "tree_by" "tree_by" jQ f fd)(hm:mg "tree_by" = some 4e6)(c_LEAST_WORDED:∃t,mg "LEAST_WORDED" = some (.int 3 t))(c_MOST_PLACES:∃t,mg "MOST_PLACES" = some (.int 6 t))(k_NoNumber:W.nsIn K mainGlobals "NoNumber" = some (some (.ref a_NoNumber)))(o_NoNumber:rM mg base "NoNumber" a_NoNumber)(k_NoTree:W.nsIn K mainGlobals "NoTree" = some (some 52e0))(o_NoTree:rM mg base "NoTree" a_NoTree)(d_is_whole_from:dy P w K mg base 2e5 2 "is_whole_from" 3 bq)(d_is_places:dy P w K mg base 2e5 4 "is_places" 2 cS)(d_web_of:dy P w K mg base 2e5 6 "web_of" 2 mC):xB P w K mg base 7 "tree_by" 2 eQ:=
 zG F iG rfl hm 1e6 fun cdv A outer s H E hr=>
 aK (iu (jl (xl (r9 d_is_whole_from 1e5 (aJ 2e6 (aJ (GF c_LEAST_WORDED) (aJ (GF c_MOST_PLACES) (aY))))))) (aT (r8 k_NoNumber o_NoNumber)) (fg))
 (aK (iu (rJ (ui (jl (xl (r9 d_is_places 1e5 39e1))) 73e2)) 50e1 (fg))
 (aK (bL 2 iG.nd (D5 nm.range nm.list 5e6))
 (aK (bL 3 iG.nd (eJ (aY)))
 (aK (jY PassesOwn.leaving (NZ nm.enumerate 4e0) (lI (de (gU 4 iG.nd) (de (gU 5 iG.nd) (lJ)))) (aK (bL 6 iG.nd (bB A0 nm.min (aJ (dW (bN (N:=["many", "word", "left", "ties", "at", "place", "least"]) (sc:=aw jQ) (Nc:=["other", "word", "at"]) (cap:=[none,some 1,some 4]) rfl rfl 1e0) (rH 24e4) (fun _ _ _ _ _=>gU 0 xa) (fun _ _ _ _ _=>lZ (cn (DS 4e5) 2e6 (rK 8e8 (fE 24e4) (g9)))) 15e1) (aY))))
 (aK (lb (AU 42e3 (aJ (bQ (aJ (aF 6) 25e9)) (aY))))
 (aT (lb (vM 4e5 24e4 (aJ (aF 6) (aY))))))))
 (aT (bH (r9 d_web_of 1e5 (aJ 2e6 (aJ (cw 42e3 (eJ (aJ 48e0 (aY)))) (aY))))))))))
theorem rV(nm:Nm mg)(F:ir K "_law_cell_at" "_law_cell_at" gA f fd)(hm:mg "_law_cell_at" = some 4e6):dy P w K mg base 2e5 1 "_law_cell_at" 2 fB:=
 c8 F rP rfl hm 1e6 fun cdv A outer s H E hr=>
 aK (iu (cn 20e4 8e8 39e0) (aT (bH (bP 2e6 8e8))) (fg))
 (aT (bH (bA)))
theorem wX(nm:Nm mg)(F:ir K "_law_next" "_law_next" jv f fd)(hm:mg "_law_next" = some 4e6):dy P w K mg base 2e5 1 "_law_next" 1 gT:=
 c8 F pI rfl hm 1e9 fun cdv A outer s H E hr=>
 aK (bL 0 pI.nd (uI (cw 2e6 (bA)) (bA)))
 (aT (bH (uI (cw (cw (xD 2e6 2e6) (xD (bA) 2e6)) (bA)) (bA))))
theorem t6(nm:Nm mg)(F:ir K "_law_pen_of" "_law_pen_of" il f fd)(hm:mg "_law_pen_of" = some 4e6):dy P w K mg base 2e5 1 "_law_pen_of" 1 gp:=
 c8 F mL rfl hm 1e9 fun cdv A outer s H E hr=>
 aK (bL 1 mL.nd (bB D0 nm.max (aJ 2e6 (aJ (iY (bA) 2e6) (aY)))))
 (aT (bH (eJ (aJ 8e8 (aJ (bB JW nm.int (aJ (lG (gS (op:=.GtE) 4e5) 8e8 (Jv (bA) (bA))) (aY))) (aJ (uI 8e8 (bA)) (aY)))))))
theorem wY(nm:Nm mg)(F:ir K "_law_draw" "_law_draw" jw f fd)(hm:mg "_law_draw" = some 4e6)(d__law_next:dy P w K mg base 2e5 1 "_law_next" 1 gT):dy P w K mg base 2e5 2 "_law_draw" 2 aM:=
 c8 F pJ rfl hm 1e6 fun cdv A outer s H E hr=>
 aK (iu (cn 29e9 6e3 (bA)) (aK (bL 2 pJ.nd (uI 6e3 8e8))
 (aK (oN (D6 6e3 8e8) (uN 2e6 (bA)))
 (aT (bH 24e4)))) (fg))
 (aK (oN (aW d__law_next 1e5 (aJ (cw (aW d__law_next 1e5 23e3) (bA)) (aY))) (uN 2e6 (bA)))
 (aT (bH (uI (D6 6e3 (bA)) 8e8))))
theorem uz(nm:Nm mg)(F:ir K "_law_whole" "_law_whole" iN f fd)(hm:mg "_law_whole" = some 4e6):dy P w K mg base 2e5 1 "_law_whole" 1 fL:=
 c8 F ux rfl hm 1e9 fun cdv A outer s H E hr=>
 aT 14e0
theorem rS(nm:Nm mg)(F:ir K "_law_kind_of" "_law_kind_of" gy f fd)(hm:mg "_law_kind_of" = some 4e6){a_NoLine a_NoPlace a_NoRoot a_NoText a_NoWeb a_TooGreat:Addr}(q_NoLine:cB K (.ref a_NoLine) [] ["NoNumber", "NoTree"])(q_NoNumber:cB K (.ref a_NoNumber) ["NoNumber"] ["NoNumber", "NoTree"])(q_NoPlace:cB K (.ref a_NoPlace) [] ["NoNumber", "NoTree"])(q_NoRoot:cB K (.ref a_NoRoot) [] ["NoNumber", "NoTree"])(q_NoText:cB K (.ref a_NoText) [] ["NoNumber", "NoTree"])(q_NoTree:cB K 52e0 ["NoTree"] ["NoNumber", "NoTree"])(q_NoWeb:cB K (.ref a_NoWeb) [] ["NoNumber", "NoTree"])(q_TooGreat:cB K (.ref a_TooGreat) [] ["NoNumber", "NoTree"])(q_ValueError:cB K 8e3 ["NoNumber", "NoTree"] ["NoNumber", "NoTree"])(m_NoLine:mg "NoLine" = some (.ref a_NoLine))(m_NoNumber:mg "NoNumber" = some (.ref a_NoNumber))(m_NoPlace:mg "NoPlace" = some (.ref a_NoPlace))(m_NoRoot:mg "NoRoot" = some (.ref a_NoRoot))(m_NoText:mg "NoText" = some (.ref a_NoText))(m_NoTree:mg "NoTree" = some 52e0)(m_NoWeb:mg "NoWeb" = some (.ref a_NoWeb))(m_TooGreat:mg "TooGreat" = some (.ref a_TooGreat)):GP P w K mg base 2e5 1 "_law_kind_of" 1 cT:=
 Kl F ji rfl hm 1e9 fun cdv A outer s H E hr=>
 aK (bL 1 ji.nd (eJ (aJ (qT q_NoPlace nm.isinstance m_NoPlace 2e6) (aJ (qT q_NoNumber nm.isinstance m_NoNumber 2e6) (aJ (qT q_NoLine nm.isinstance m_NoLine 2e6) (aJ (qT q_NoRoot nm.isinstance m_NoRoot 2e6) (aY)))))))
 (aK (bL 1 ji.nd (cw 8e8 (eJ (aJ (qT q_NoTree nm.isinstance m_NoTree 2e6) (aJ (qT q_NoWeb nm.isinstance m_NoWeb 2e6) (aJ (qT q_NoText nm.isinstance m_NoText 2e6) (aJ (qT q_TooGreat nm.isinstance m_TooGreat 2e6) (aY))))))))
 (aK (iu (rJ (ui (jl (xl (Ks q_ValueError nm.isinstance nm.ValueError uF 2e6))) (sD (cn 56e2 (Oh 8e8 (aJ (AN) (aY))) (bA))))) (aT (bH (zt))) (fg))
 (aT (bH (bP (eJ (aJ (zt) (aJ (zt) (aJ (zt) (aJ (zt) (aJ (zt) (aJ (zt) (aJ (zt) (aJ (zt) (aY)))))))))) (Og 8e8 (aJ (AN) (aY))))))))
theorem uB(nm:Nm mg)(F:ir K "_law_named" "_law_named" eS f fd)(hm:mg "_law_named" = some 4e6):dy P w K mg base 2e5 1 "_law_named" 2 dh:=
 c8 F nK rfl hm 1e6 fun cdv A outer s H E hr=>
 aK (la 2 nK.nd (bN (N:=["_law_web", "_law_names", "_law_ties"]) (sc:=aw eS) (Nc:=["_law_one", "_law_other", "_law_names"]) (cap:=[none,none,some 1]) rfl rfl 1e0) (rH 6e3) (fun _ _ _ _ _=>lI (de (gU 0 lN) (de (gU 1 lN) (lJ)))) 5e3 (fun _ _ _ _ _=>bQ (aJ (bP 24e4 2e6) (aJ (bP 24e4 8e8) (aY)))))
 (aT (bH (bQ (aJ 6e3 (aJ (bB gv nm.tuple (aJ (bB mB nm.sorted (aJ (bB (DZ 4e5) nm.set (aJ (dW (bN (N:=["_law_web", "_law_names", "_law_ties"]) (sc:=aw eS) (Nc:=["_law_tie"]) (cap:=[none]) rfl rfl 1e0) (rH 24e4) (fun _ _ _ _ _=>gU 0 rX) 5e3 (fun _ _ _ _ _=>bQ 47e9)) (aY))) (aY))) (aY))) (aY))))))
theorem qQ(nm:Nm mg)(F:ir K "_law_names_by" "_law_names_by" d5 f fd)(hm:mg "_law_names_by" = some 4e6)(d__law_draw:dy P w K mg base 2e5 2 "_law_draw" 2 aM):dy P w K mg base 2e5 3 "_law_names_by" 2 cZ:=
 c8 F kP rfl hm 1e6 fun cdv A outer s H E hr=>
 aK (bL 2 kP.nd (D5 nm.range nm.list 4e0))
 (aT (bH (bB gv nm.tuple (aJ (dW (bN (N:=["_law_pen", "_law_many", "_law_left"]) (sc:=aw d5) (Nc:=["_law_place", "_law_left", "_law_pen"]) (cap:=[none,some 2,some 0]) rfl rfl 1e0) (qc nm.range 4e0) (fun _ _ _ _ _=>gU 0 oD) 5e3 (fun _ _ _ _ _=>Of 8e8 (aJ (aW d__law_draw 1e5 (aJ 24e4 (aJ 39e2 (aY)))) (aY)))) (aY)))))
theorem y9(nm:Nm mg)(F:ir K "_law_far" "_law_far" i6 f fd)(hm:mg "_law_far" = some 4e6):dy P w K mg base 2e5 1 "_law_far" 1 fu:=
 c8 F dC rfl hm 1e9 fun cdv A outer s H E hr=>
 aK (bL 1 dC.nd 6e3)
 (aK (la 2 dC.nd (bN (N:=["_law_web", "_law_many", "_law_far_here", "_law_place", "_law_size", "_law_one", "_law_other", "_law_a", "_law_b"]) (sc:=aw i6) (Nc:=["_law_place", "_law_many"]) (cap:=[none,some 1]) rfl rfl 1e0) (qc nm.range 4e0) (fun _ _ _ _ _=>gU 0 uC) 5e3 (fun _ _ _ _ _=>xD (eJ 71e5) 8e8))
 (aK (jY VL (qc nm.range 4e0) (gU 3 dC.nd) (aK (oN (bA) (uN 71e6 42e3))
 (aT (jY VL (BL nm.range (aJ (bA) 4e0)) (gU 4 dC.nd) (aT (jY VL (rH 6e3) (lI (de (gU 5 dC.nd) (de (gU 6 dC.nd) (lJ)))) (aT (jY VL (rH (eJ (aJ (bQ (aJ (aF 5) (aJ (aF 6) (aY)))) (aJ (bQ (aJ (aF 6) 25e9)) (aY))))) (lI (de (gU 7 dC.nd) (de (gU 8 dC.nd) (lJ)))) (aT (iu (rJ (xE (cn 29e9 (bP 71e6 (aF 7)) (iY 75e4 (bA))) (sJ (cn (JT) (bP 71e6 (aF 8)) (BF))))) (aT (oN 75e4 (uN 71e6 (aF 8)))) (fg)))))))))))
 (aT (bH 24e4))))
theorem uA(nm:Nm mg)(F:ir K "_law_steps" "_law_steps" f7 f fd)(hm:mg "_law_steps" = some 4e6)(d__law_far:dy P w K mg base 2e5 1 "_law_far" 1 fu):dy P w K mg base 2e5 2 "_law_steps" 2 eE:=
 c8 F f9 rfl hm 1e6 fun cdv A outer s H E hr=>
 aK (bL 2 f9.nd (aW d__law_far 1e5 5e6))
 (aK (bL 3 f9.nd (eJ (aY)))
 (aK (jY VL 75e5 (gU 4 f9.nd) (aT (bL 3 f9.nd (cw 42e3 (dW (bN (N:=["_law_web", "_law_k", "_law_far_here", "_law_ties", "_law_one"]) (sc:=aw f7) (Nc:=["_law_b", "_law_one", "_law_k", "_law_far_here"]) (cap:=[none,some 4,some 1,some 2]) rfl rfl 1e0) (BL nm.range (aJ (cw 75e4 (bA)) 23e3)) (fun _ _ _ _ _=>gU 0 rW) (fun _ _ _ _ _=>lZ (rJ (xE (cn (Mx) (bP (bP 42e3 8e8) 2e6) (BF)) (sJ (cn 23e2 (bP (bP 42e3 8e8) 2e6) 24e4))))) (fun _ _ _ _ _=>bQ (aJ 8e8 5e6)))))))
 (aT (bH (bQ (aJ 6e3 (aJ (bB gv nm.tuple 30e0) (aY))))))))
theorem pR(nm:Nm mg)(F:ir K "_law_sparse_by" "_law_sparse_by" bz f fd)(hm:mg "_law_sparse_by" = some 4e6)(d__law_draw:dy P w K mg base 2e5 2 "_law_draw" 2 aM)(d__law_named:dy P w K mg base 2e5 1 "_law_named" 2 dh)(d__law_names_by:dy P w K mg base 2e5 3 "_law_names_by" 2 cZ):dy P w K mg base 2e5 4 "_law_sparse_by" 1 d7:=
 c8 F br rfl hm 1e9 fun cdv A outer s H E hr=>
 aK (bL 1 br.nd 15e3)
 (aK (bL 2 br.nd (cw (bA) 15e3))
 (aK (bL 3 br.nd (eJ (aY)))
 (aK (jY VL (qc nm.range 7e1) (gU 4 br.nd) (aT (bL 3 br.nd (cw 42e3 (dW (bN (N:=["_law_pen", "_law_way", "_law_many", "_law_every", "_law_other", "_law_ties"]) (sc:=aw bz) (Nc:=["_law_one", "_law_other"]) (cap:=[none,some 4]) rfl rfl 1e0) (qc nm.range 26e0) (fun _ _ _ _ _=>gU 0 nE) 5e3 (fun _ _ _ _ _=>bQ 39e1))))))
 (aK (iu 39e3 (aT (la 5 br.nd 11e5 (rH 42e3) (fun _ _ _ _ _=>gU 0 nD) 37e6 15e1)) (aT (iu 39e3 (aT (la 5 br.nd 11e5 (rH 42e3) (fun _ _ _ _ _=>gU 0 nC) 37e6 15e1)) (aT (iu 39e3 (aT (bL 5 br.nd (cw (dW 5e7 (qc nm.range 56e3) (fun _ _ _ _ _=>gU 0 nB) 5e3 48e1) (xD (eJ (aJ (bQ (aJ (bA) 56e3)) (aY))) (bB JW nm.int (aJ (lG 54e2 24e4 (bA)) (aY))))))) (aT (iu 39e3 (aT (la 5 br.nd 5e7 (qc nm.range 56e3) (fun _ _ _ _ _=>gU 0 nA) 5e3 48e1)) (aT (iu 39e3 (aT (la 5 br.nd 5e7 (BL nm.range (aJ (bA) 7e1)) (fun _ _ _ _ _=>gU 0 nz) 5e3 (fun _ _ _ _ _=>bQ (aJ (bA) 5e6)))) (aT (la 5 br.nd (bN (N:=["_law_pen", "_law_way", "_law_many", "_law_every", "_law_other", "_law_ties"]) (sc:=aw bz) (Nc:=["_law_place", "_law_pen"]) (cap:=[none,some 0]) rfl rfl 1e0) (BL nm.range (aJ (bA) 7e1)) (fun _ _ _ _ _=>gU 0 ny) 5e3 36e7)))))))))))
 (aT (bH (aW d__law_named 1e5 (aJ (bQ (aJ 24e4 (aJ (bB gv nm.tuple 25e9) (aY)))) (aJ (aW d__law_names_by 1e5 (aJ 2e6 7e1)) (aY))))))))))
theorem t5(nm:Nm mg)(F:ir K "_law_web_by" "_law_web_by" ik f fd)(hm:mg "_law_web_by" = some 4e6)(d__law_sparse_by:dy P w K mg base 2e5 4 "_law_sparse_by" 1 d7)(d__law_draw:dy P w K mg base 2e5 2 "_law_draw" 2 aM)(d__law_steps:dy P w K mg base 2e5 2 "_law_steps" 2 eE):dy P w K mg base 2e5 5 "_law_web_by" 1 gn:=
 c8 F dk rfl hm 1e9 fun cdv A outer s H E hr=>
 aK (bL 1 dk.nd (aW d__law_sparse_by 1e5 5e6))
 (aK (bL 2 dk.nd 15e3)
 (aK (iu (cn 20e4 24e4 (bA)) (aT (bL 1 dk.nd (aW d__law_steps 1e5 (aJ 8e8 6e7)))) (fg))
 (aK (iu (rJ (xE (cn 29e9 24e4 (bA)) (sJ (cn 56e2 13e4 (bQ (aY)))))) (aK (bL 3 dk.nd (aW d__law_draw 1e5 (aJ 2e6 (aJ (bB jJ nm.len (aJ 13e4 (aY))) (aY)))))
 (aT (bH (bQ (aJ 13e4 (aJ (cw (rK 13e4 (g9) (fE 42e3)) (rK 13e4 71e7 (g9))) (aY))))))) (fg))
 (aK (iu (rJ (xE (cn 29e9 24e4 (bA)) (sJ (cn 54e2 13e4 (bA))))) (aK (bL 4 dk.nd (aW d__law_draw 1e5 (aJ 2e6 (aJ 13e4 (aY)))))
 (aK (bL 5 dk.nd (bB gv nm.tuple (aJ (bB mB nm.sorted (aJ (bQ (aJ 75e4 (aJ (uI (cw (cw 75e4 (bA)) (aW d__law_draw 1e5 (aJ 2e6 (aJ (iY 13e4 (bA)) (aY))))) 13e4) (aY)))) (aY))) (aY))))
 (aT (bH (bQ (aJ 13e4 (aJ (bB gv nm.tuple (aJ (bB mB nm.sorted (aJ (bB (DZ 4e5) nm.set (aJ (cw 13e4 (bQ 25e9)) (aY))) (aY))) (aY))) (aY)))))))) (fg))
 (aT (bH 8e8))))))
theorem rQ(nm:Nm mg)(F:ir K "_law_tree_by" "_law_tree_by" eM f fd)(hm:mg "_law_tree_by" = some 4e6)(d__law_draw:dy P w K mg base 2e5 2 "_law_draw" 2 aM)(d__law_named:dy P w K mg base 2e5 1 "_law_named" 2 dh)(d__law_names_by:dy P w K mg base 2e5 3 "_law_names_by" 2 cZ):dy P w K mg base 2e5 4 "_law_tree_by" 1 fw:=
 c8 F jh rfl hm 1e9 fun cdv A outer s H E hr=>
 aK (bL 1 jh.nd (cw (bA) 15e3))
 (aK (la 2 jh.nd (bN (N:=["_law_pen", "_law_many", "_law_ties"]) (sc:=aw eM) (Nc:=["_law_place", "_law_pen"]) (cap:=[none,some 0]) rfl rfl 1e0) (BL nm.range (aJ (bA) 4e0)) (fun _ _ _ _ _=>gU 0 pS) 5e3 36e7)
 (aT (bH (aW d__law_named 1e5 (aJ (bQ (aJ 8e8 (aJ 48e0 (aY)))) (aJ (aW d__law_names_by 1e5 39e1) (aY)))))))
theorem rR(nm:Nm mg)(F:ir K "_law_no_tree" "_law_no_tree" gx f fd)(hm:mg "_law_no_tree" = some 4e6)(d__law_draw:dy P w K mg base 2e5 2 "_law_draw" 2 aM):dy P w K mg base 2e5 3 "_law_no_tree" 2 fA:=
 c8 F dz rfl hm 1e6 fun cdv A outer s H E hr=>
 aK (oN 8e8 (lI (de (gU 2 dz.nd) (de (gU 3 dz.nd) (lJ)))))
 (aK (bL 4 dz.nd (aW d__law_draw 1e5 (aJ 2e6 (aJ (cw (bB jJ nm.len 30e0) (bA)) (aY)))))
 (aK (bL 5 dz.nd (eJ (aJ (bQ (aJ 24e4 (aJ (cw (rK 42e3 (g9) (fE 75e4)) (rK 42e3 (fE (cw 75e4 (bA))) (g9))) (aY)))) (aJ (bQ (aJ 24e4 (aJ (cw (D4 42e3 (AS (bA))) (bQ (aJ (bQ (aJ (bA) 7e1)) (aY)))) (aY)))) (aJ (bQ (aJ (cw 24e4 (bA)) 30e0)) (aJ (eJ (aJ 24e4 30e0)) (aY)))))))
 (aK (bL 5 dz.nd (cw (aF 5) (eJ (aJ (bQ (aJ 24e4 (aJ (bB v5 nm.list 30e0) (aY)))) (aJ (BF) (aJ (bA) (aJ (bQ (aY)) (aJ (N7) (aJ (zt) 16e0)))))))))
 (aK (lb (AU (aF 5) 16e0))
 (aT (bH (bP (aF 5) 15e3)))))))
theorem rT(nm:Nm mg)(F:ir K "_law_is_tree" "_law_is_tree" eN f fd)(hm:mg "_law_is_tree" = some 4e6)(d__law_whole:dy P w K mg base 2e5 1 "_law_whole" 1 fL)(d__law_far:dy P w K mg base 2e5 1 "_law_far" 1 fu):dy P w K mg base 2e5 2 "_law_is_tree" 1 bh:=
 c8 F rO rfl hm 1e9 fun cdv A outer s H E hr=>
 aK (iu (rJ (ui 32e8 (ui (cn 56e2 39e0 (bA)) (ui (jl (xl (aW d__law_whole 1e5 23e3))) (sD (jl (On 23e2 23e2 (bA) 6e3 (bA)))))))) 27e5 (fg))
 (aK (iu (rJ (ui (jl (xl (lF (T:="tuple") 0e4 jO 0e4 0e4 nm.isinstance nm.tuple 6e3))) (ui (cn 56e2 (bB jJ nm.len 23e3) (iY 6e3 (bA))) (sD (cn 56e2 (bB v5 nm.list 23e3) (bB mB nm.sorted (aJ (bB (DZ 4e5) nm.set 23e3) (aY)))))))) 27e5 (fg))
 (aK (iu (jl (xl (bB xQ nm.all (aJ (dW (bN (N:=["_law_thing"]) (sc:=aw eN) (Nc:=["_law_one", "_law_other", "_law_thing"]) (cap:=[none,none,some 0]) rfl rfl 1e0) (rH 6e3) (fun _ _ _ _ _=>lI (de (gU 0 km) (de (gU 1 km) (lJ)))) 5e3 (fun _ _ _ _ _=>Ku 23e2 20e4 20e4 (bA) 2e6 8e8 (bP 24e4 (bA)))) (aY))))) 27e5 (fg))
 (aT (bH (lG (DS 4e5) (BF) (bP (aW d__law_far 1e5 5e6) (bA)))))))
theorem wV(nm:Nm mg)(F:ir K "_law_word" "_law_word" fJ f fd)(hm:mg "_law_word" = some 4e6):dy P w K mg base 2e5 1 "_law_word" 1 dE:=
 c8 F fK rfl hm 1e9 fun cdv A outer s H E hr=>
 aK (bL 1 fK.nd (dW (bN (N:=["_law_web", "_law_near", "_law_found", "_law_turn", "_law_least", "_law_other"]) (sc:=aw fJ) (Nc:=["_law_place", "_law_web"]) (cap:=[none,some 0]) rfl rfl 1e0) 75e5 (fun _ _ _ _ _=>gU 0 ue) 5e3 (fun _ _ _ _ _=>dW (Jm (N:=["_law_place", "_law_web"]) (Nc:=["_law_one", "_law_other", "_law_place"]) (cap:=[none,none,some 0]) rfl rfl 1e0) (rH 13e4) (fun _ _ _ _ _=>lI (de (gU 0 mM) (de (gU 1 mM) (lJ)))) (fun _ _ _ _ _=>lZ (cn (GI 4e5) 24e4 (bQ 39e1))) (fun _ _ _ _ _=>iY (cw 2e6 8e8) 24e4))))
 (aK (bL 2 fK.nd (eJ (aY)))
 (aK (jY VL (qc nm.range (aJ (iY 6e3 (bA)) (aY))) (gU 3 fK.nd) (aK (bL 4 fK.nd (bP (dW (bN (N:=["_law_web", "_law_near", "_law_found", "_law_turn", "_law_least", "_law_other"]) (sc:=aw fJ) (Nc:=["_law_place", "_law_near"]) (cap:=[none,some 1]) rfl rfl 1e0) 75e5 (fun _ _ _ _ _=>gU 0 ud) (fun _ _ _ _ _=>lZ (cn 29e9 (bB jJ nm.len (aJ (bP 8e8 2e6) (aY))) (bA))) 15e1) (bA)))
 (aK (bL 5 fK.nd (bP (bP 8e8 75e4) (bA)))
 (aK (lb (AU 24e4 25e9))
 (aK (lb (vM 4e5 (bP 8e8 75e4) 25e9))
 (aT (lb (vM 4e5 (bP 8e8 (aF 5)) 26e0))))))))
 (aT (bH 48e0))))
theorem wW(nm:Nm mg)(F:ir K "_law_told" "_law_told" ju f fd)(hm:mg "_law_told" = some 4e6){a_RootError:Addr}(m_RootError:mg "RootError" = some (.ref a_RootError))(kn_RootError:xU K "RootError" a_RootError ["NoNumber", "NoTree"])(d_word_of:xB P w K mg base 11 "word_of" 1 eP)(d_tree_by:xB P w K mg base 7 "tree_by" 2 eQ)(d__law_kind_of:GP P w K mg base 2e5 1 "_law_kind_of" 1 cT):dy P w K mg base 2e5 12 "_law_told" 3 bX:=
 c8 F pH rfl hm 26e4 fun cdv A outer s H E hr=>
 aT (N6 zR pH.nd kn_RootError m_RootError (fun pins E=>aT (bH (NF (cn 29e9 2e6 (bA)) (v7 d_word_of (JL zR) 1e5 4e0) (v7 d_tree_by (JL zR) 1e5 (aJ 8e8 7e1))))) (fun ea=>aT (bH (G5 d__law_kind_of ((hr.h.mark _).mono 0e4) 30e0))))
theorem pQ(nm:Nm mg)(F:ir K "_law_word_good" "_law_word_good" dF f fd)(hm:mg "_law_word_good" = some 4e6)(d__law_whole:dy P w K mg base 2e5 1 "_law_whole" 1 fL):dy P w K mg base 2e5 2 "_law_word_good" 2 d6:=
 c8 F pP rfl hm 1e6 fun cdv A outer s H E hr=>
 aK (iu (rJ (ui (jl (xl 16e3)) 73e2)) 27e5 (fg))
 (aT (bH (bB xQ nm.all (aJ (dW (bN (N:=["_law_many", "_law_thing"]) (sc:=aw dF) (Nc:=["_law_one", "_law_many"]) (cap:=[none,some 0]) rfl rfl 1e0) (rH 8e8) (fun _ _ _ _ _=>gU 0 nv) 5e3 (fun _ _ _ _ _=>jm (aW d__law_whole 1e5 5e6) (l5 (Jw 23e2 20e4 (bA) 2e6 8e8)))) (aY)))))
theorem nu(nm:Nm mg)(F:ir K "_law_treed_right" "_law_treed_right" dR f fd)(hm:mg "_law_treed_right" = some 4e6)(d__law_told:dy P w K mg base 2e5 12 "_law_told" 3 bX)(d__law_word_good:dy P w K mg base 2e5 2 "_law_word_good" 2 d6)(d__law_is_tree:dy P w K mg base 2e5 2 "_law_is_tree" 1 bh)(d__law_word:dy P w K mg base 2e5 1 "_law_word" 1 dE):dy P w K mg base 2e5 13 "_law_treed_right" 2 cM:=
 c8 F jo rfl hm 1e6 fun cdv A outer s H E hr=>
 aK (bL 2 jo.nd (aW d__law_told 1e5 (aJ (bA) 39e1)))
 (aK (iu (jl (xl (aW d__law_word_good 1e5 39e1))) (aT (bH (lG 29e9 24e4 (zt)))) (fg))
 (aT (bH (jm (lF (T:="tuple") 0e4 jO 0e4 0e4 nm.isinstance nm.tuple 24e4) (jm (lG 29e9 (bP 24e4 (bA)) 2e6) (jm (aW d__law_is_tree 1e5 7e1) (l5 (lG 29e9 (aW d__law_word 1e5 7e1) 8e8))))))))
theorem wZ(nm:Nm mg)(F:ir K "_law_bent" "_law_bent" jx f fd)(hm:mg "_law_bent" = some 4e6)(d__law_draw:dy P w K mg base 2e5 2 "_law_draw" 2 aM):dy P w K mg base 2e5 3 "_law_bent" 3 d9:=
 c8 F jy rfl hm 26e4 fun cdv A outer s H E hr=>
 aK (bL 3 jy.nd (aW d__law_draw 1e5 (aJ 24e4 (aJ (cw 39e0 (bA)) (aY)))))
 (aK (bL 4 jy.nd (bP (eJ (aJ 8e8 (aJ (AS (bA)) (aJ (AN) (aJ (BF) (aJ (zt) (aJ (bQ 6e7) (aJ (aW d__law_draw 1e5 (aJ 24e4 4e0)) (aY))))))))) 35e6))
 (aK (bL 5 jy.nd (eJ (aJ (cw (cw 58e5 (bQ 26e0)) (rK 2e6 71e7 (g9))) (aJ (cw (cw 58e5 (bQ 26e0)) (rK 2e6 (fE 42e3) (g9))) (aJ (cw 58e5 (rK 2e6 71e7 (g9))) (aY))))))
 (aT (bH (bP (cw (aF 5) (eJ (aJ (bB v5 nm.list 5e6) (aJ (BF) (aJ (bA) (aJ (bQ 5e6) (aJ (D4 2e6 (AS (bA))) (aY)))))))) 35e6)))))
theorem MR(nm:Nm mg)(F:ir K "law" "law" k9 f fd)(d__law_cell_at:dy P w K mg base 2e5 1 "_law_cell_at" 2 fB)(d__law_pen_of:dy P w K mg base 2e5 1 "_law_pen_of" 1 gp)(d__law_tree_by:dy P w K mg base 2e5 4 "_law_tree_by" 1 fw)(d__law_web_by:dy P w K mg base 2e5 5 "_law_web_by" 1 gn)(d__law_no_tree:dy P w K mg base 2e5 3 "_law_no_tree" 2 fA)(d_tree_good:dy P w K mg base 2e5 9 "tree_good" 1 bJ)(d__law_is_tree:dy P w K mg base 2e5 2 "_law_is_tree" 1 bh)(d__law_word:dy P w K mg base 2e5 1 "_law_word" 1 dE)(d__law_told:dy P w K mg base 2e5 12 "_law_told" 3 bX)(d__law_draw:dy P w K mg base 2e5 2 "_law_draw" 2 aM)(d__law_bent:dy P w K mg base 2e5 3 "_law_bent" 3 d9)(d__law_treed_right:dy P w K mg base 2e5 13 "_law_treed_right" 2 cM):sC P w K mg base zy 14 f fd ["_law_script"] (Gq 2e5 1 xW):=
 O6 F jg rfl fun cdv A outer s H E hr=>
 aK (jY VL (rH (cw (eJ (aJ (aW d__law_cell_at 1e5 (aJ 2e6 6e7)) (aY))) (rK 2e6 (fE (bA)) (fE (bA))))) (gU 1 jg.nd) (aK (bL 2 jg.nd (aW d__law_pen_of 1e5 4e0))
 (aK (bL 3 jg.nd (aW d__law_tree_by 1e5 7e1))
 (aK (jY VL (rH (cw (eJ (aJ 42e3 (aJ (aW d__law_web_by 1e5 7e1) (aY)))) (dW (bN (N:=["_law_script", "_law_cell", "_law_pen", "_law_web", "_law_thing", "_law_found", "_law_due", "_law_word_here", "_law_many", "_law_bad"]) (sc:=aw k9) (Nc:=["_law_turn", "_law_pen", "_law_web"]) (cap:=[none,some 2,some 3]) rfl rfl 1e0) (qc nm.range 6e7) (fun _ _ _ _ _=>gU 0 FP) 5e3 (fun _ _ _ _ _=>aW d__law_no_tree 1e5 (aJ 8e8 7e1))))) (gU 4 jg.nd) (aK (bL 5 jg.nd (aW d_tree_good 1e5 26e0))
 (aK (bL 6 jg.nd (aW d__law_is_tree 1e5 26e0))
 (aK (iu (rJ (ui (jl (xl (lF (T:="bool") 0e4 wC 0e4 0e4 nm.isinstance nm.bool (aF 5)))) (sD (cn 56e2 (aF 5) (aF 6))))) 27e5 (fg))
 (aK (bL 7 jg.nd (NF (rJ (xE (xl (aF 6)) (sJ (cn 54e2 (bP 75e4 (bA)) (bA))))) (aW d__law_word 1e5 26e0) (zt)))
 (aT (iu (cn (O0) (bB (BD hr) nm.repr (aJ (aW d__law_told 1e5 (aJ (bA) (aJ 75e4 71e5))) (aY))) (bB (BD hr) nm.repr (aJ (aF 7) (aY)))) 27e5 (fg))))))))
 (aK (bL 8 jg.nd (cw (bA) 35e6))
 (aK (bL 7 jg.nd (bB gv nm.tuple (aJ (dW (bN (N:=["_law_script", "_law_cell", "_law_pen", "_law_web", "_law_thing", "_law_found", "_law_due", "_law_word_here", "_law_many", "_law_bad"]) (sc:=aw k9) (Nc:=["_law_turn", "_law_pen", "_law_many"]) (cap:=[none,some 2,some 8]) rfl rfl 1e0) (qc nm.range (aJ (iY (aF 8) (bA)) (aY))) (fun _ _ _ _ _=>gU 0 FO) 5e3 (fun _ _ _ _ _=>aW d__law_draw 1e5 (aJ 8e8 7e1))) (aY))))
 (aK (jY VL (rH (eJ (aJ (aF 7) (aJ 52e1 (aJ 52e1 (aJ (Kr (bQ 6e7) (iY (aF 8) (bA))) (aY))))))) (gU 4 jg.nd) (aT (iu (jl (xl (aW d__law_treed_right 1e5 (aJ (aF 8) 26e0)))) 27e5 (fg))))
 (aT (jY VL (rH (eJ (aJ (bA) (aJ (bA) (aJ (AS (bA)) (aJ (AN) (aJ (BF) (aJ (zt) (aJ (bQ 6e7) (aJ (Jv (bA) (bA)) (aY))))))))))) (gU 9 jg.nd) (aT (iu (cn 56e2 (aW d__law_told 1e5 (aJ (bA) (aJ (aF 9) 71e5))) (zt)) 27e5 (fg))))))))))))
 (aT (bH (AN)))
end
end Lw
namespace Lv
variable{adj:Int->Int->Prop}{p:Int}
def R(adj:Int->Int->Prop)(p:Int):Nat->Int->Prop
 |0,q=>q=p
 |n+1,q=>R adj p n q\/∃r,adj r q/\R adj p n r
def vD(adj:Int->Int->Prop)(p:Int):Nat->Int->Prop
 |0,q=>q=p
 |n+1,q=>R adj p (n+1) q/\¬ R adj p n q
theorem R.up(h:R adj p n q):R adj p (n+1) q:=.inl h
theorem R.mono(h:R adj p n q)(hm:n<=m):R adj p m q:=by
 induction hm with
 |refl=>exact h
 |step _ ih=>exact ih.up
theorem vD.r(h:vD adj p n q):R adj p n q:=by
 cases n with
 |zero=>exact h
 |succ n=>exact h.1
theorem R.lev(h:R adj p n q):∃j,j<=n/\vD adj p j q:=by
 induction n with
 |zero=>exact⟨0,RT _,h⟩
 |succ n ih=>
  by_cases hr:R adj p n q
  ·obtain⟨j,hj,hl⟩:=ih hr;exact⟨j,by omega,hl⟩
  ·exact⟨n+1,RT _,h,hr⟩
theorem vD.low(h:vD adj p n q)(hj:j<n):¬ R adj p j q:=by
 cases n with
 |zero=>omega
 |succ n=>exact fun hr=>h.2 (hr.mono 0e0)
theorem vD.one(h:vD adj p n q)(h':vD adj p m q):n=m:=by
 rcases Nat.lt_trichotomy n m with z|z|z
 ·exact absurd h.r (h'.low z)
 ·exact z
 ·exact absurd h'.r (h.low z)
theorem kF:vD adj p (n+1) q↔¬ R adj p n q/\∃r,adj r q/\vD adj p n r:=by
 constructor
 ·rintro ⟨h1, h2⟩
  refine⟨h2,?_⟩;rcases h1 with h1|⟨r,ha,hr⟩
  ·exact absurd h1 h2
  ·refine ⟨r, ha, ?_⟩;cases n with
   |zero=>exact hr
   |succ n=>exact⟨hr,fun z=>h2 (.inr ⟨r,ha,z⟩)⟩
 ·rintro ⟨h1, r, ha, hr⟩
  exact⟨.inr ⟨r,ha,hr.r⟩,h1⟩
def Up(adj:Int->Int->Prop)(p:Int)(D:Int->Prop)(n:Nat)(f:Int->Option Nat):Prop:=∀q,D q->∀j,f q=some j↔(j<=n/\vD adj p j q)
theorem Up.none{D:Int->Prop}{f:Int->Option Nat}(h:Up adj p D n f)(hq:D q):f q=none↔¬ R adj p n q:=by
 constructor
 ·intro e hr;obtain⟨j,hj,hl⟩:=hr.lev;have:=(h q hq j).mpr ⟨hj,hl⟩;rw[e]at this;cases this
 ·intro hr;cases e:f q with
  |none=>rfl
  |some j=>
   obtain⟨hj,hl⟩:=(h q hq j).mp e;exact absurd (hl.r.mono hj) hr
theorem BE{D:Int->Prop}{f:Int->Option Nat}(h:∀q,D q->f q=if q=p then some 0 else Option.none):Up adj p D 0 f:=fun q hq j=>by
 rw[h q hq];by_cases e:q=p
 ·rw [Rc e];constructor
  ·intro z;cases z;exact⟨RT _,e⟩
  ·rintro ⟨h1, _⟩
   have:j=0:=by omega
   rw[this]
 ·rw [Re e];constructor
  ·intro z;cases z
  ·rintro ⟨h1, h2⟩
   have:j=0:=by omega
   subst this;exact absurd h2 e
theorem Up.next{D:Int->Prop}{f f':Int->Option Nat}(h:Up adj p D n f)(hD:∀a b,adj a b->D a)(e:∀q,D q->∀j,f' q=some j↔(f q=some j\/(f q=Option.none/\j=n+1/\∃r,adj r q/\f r=some n))):Up adj p D (n+1) f':=fun q hq j=>by
 rw[e q hq j];constructor
 ·rintro (z | ⟨z1, z2, r, z3, z4⟩)
  ·obtain⟨hj,hl⟩:=(h q hq j).mp z;exact⟨by omega,hl⟩
  ·subst z2;refine⟨RT _,kF.mpr ⟨(h.none hq).mp z1,r,z3,?_⟩⟩;exact((h r (hD r q z3) n).mp z4).2
 ·rintro ⟨hj, hl⟩
  by_cases hn:j<=n
  ·exact .inl ((h q hq j).mpr ⟨hn,hl⟩)
  ·have : j = n + 1 := by omega
   subst this;obtain⟨h1,r,ha,hr⟩:=kF.mp hl;exact .inr ⟨(h.none hq).mpr h1,rfl,r,ha,(h r (hD r q ha) n).mpr ⟨RT _,hr⟩⟩
def xv(adj:Int->Int->Prop)(p:Int)(D:Int->Prop)(f:Int->Option Nat):Prop:=∀q,D q->∀j,f q=some j↔vD adj p j q
theorem vD.below:∀{q:Int},vD adj p n q->∀j,j<=n->∃r,vD adj p j r:=by
 induction n with
 | zero => intro q h j hj; exact ⟨q, by have : j = 0 := by omega
                                        subst this;exact h⟩
 |succ n ih=>
  intro q h j hj;by_cases e:j=n+1
  ·subst e;exact⟨q,h⟩
  ·obtain⟨_,r,_,hr⟩:=kF.mp h;exact ih hr j 0e0
theorem Up.full{D:Int->Prop}{f:Int->Option Nat}(h:Up adj p D n f)(hD:∀a b,adj a b->D b)(e:∀q,D q->¬ vD adj p (n+1) q):xv adj p D f:=fun q hq j=>by
 rw[h q hq j];constructor
 ·exact fun z=>z.2
 ·intro hl;refine⟨?_,hl⟩;apply Nat.le_of_not_lt;intro hj;obtain⟨r,hr⟩:=hl.below (n+1) 0e0;obtain⟨_,s,hs,_⟩:=kF.mp hr;exact e r (hD s r hs) hr
theorem Ep(hp:0<=p/\p<m)(hD:∀a b,adj a b->0<=b/\b<m)(h:vD adj p n q):n<m:=by
 have hr:∀j,∃r,j<=n->vD adj p j r:=fun j=>by
  by_cases hj:j<=n
  ·obtain⟨r,hr⟩:=h.below j hj;exact⟨r,fun _=>hr⟩
  ·exact⟨0,fun z=>absurd z hj⟩
 let r:Nat->Int:=fun j=>(hr j).choose
 have hr':∀j,j<=n->vD adj p j (r j):=fun j hj=>(hr j).choose_spec hj
 have rng:∀j,j<=n->0<=r j/\r j<m:=fun j hj=>by
  have:=hr' j hj;cases j with
  |zero=>rw[show r 0=p from this];exact hp
  |succ j=>
   obtain⟨_,s,hs,_⟩:=kF.mp this;exact hD s _ hs
 have nd:((List.range (n+1)).map fun j=>(r j).toNat).Nodup:=by
  rw[List.Nodup,U6];refine VM (R:=(·<·)) ?_ Uw;intro a b ha hb hab e;rw[Rk]at ha hb;have r1:=rng a 0e0;have r2:=rng b 0e0;have e':r a=r b:=by omega
  have h1:=hr' a 0e0;have h2:=hr' b 0e0;rw[e']at h1;have:=h1.one h2;omega
 have sub:((List.range (n+1)).map fun j=>(r j).toNat) ⊆ List.range m:=fun x hx=>by
  obtain⟨j,hj,rfl⟩:=Ub.mp hx;rw[Rk]at hj⊢;have:=rng j 0e0;omega
 have:=nd.length_le_of_subset sub;rw[Sn,T4,T4]at this;omega
end Lv
namespace Lv
def nT(f:Int->Option Nat)(r:Int)(v:Nat):Int->Option Nat:=fun q=>if q=r then some v else f q
def Dl(n:Nat)(f:Int->Option Nat)(qr:Int×Int):Int->Option Nat:=if f qr.1=some n/\f qr.2=none then nT f qr.2 (n+1) else f
theorem Hd{f0 f:Int->Option Nat}{done:List 13e5}{qr:Int×Int}(h:∀q j,f q=some j↔(f0 q=some j\/(f0 q=none/\j=n+1/\∃r,(r,q)∈done/\f0 r=some n))):
  ∀q j,Dl n f qr q=some j↔(f0 q=some j\/(f0 q=none/\j=n+1/\∃r,(r,q)∈done++[qr]/\f0 r=some n)):=by
 intro q j
 have hn:∀r,f r=some n↔f0 r=some n:=fun r=>by
  rw[h r n];constructor
  ·rintro (z | ⟨_, z, _⟩)
   ·exact z
   ·omega
  ·exact .inl
 have h0:∀r,f r=none->f0 r=none:=fun r e=>by
  cases e0:f0 r with
  |none=>rfl
  |some i=>
   have:=(h r i).mpr (.inl e0);rw[e]at this;cases this
 obtain⟨a,b⟩:=qr;unfold Dl;dsimp only;by_cases c:f a=some n/\f b=none
 ·rw [Rc c];unfold nT;by_cases e:q=b
  ·subst e;rw[Rc rfl];have z:=h0 q c.2;constructor
   ·intro e;cases e;exact .inr ⟨z,rfl,a,by simp,(hn a).mp c.1⟩
   ·rintro (y | ⟨_, y, _⟩)
    ·rw[z]at y;cases y
    ·rw[y]
  ·rw [Re e, h q j];constructor
   ·rintro (y | ⟨y1, y2, r, y3, y4⟩)
    ·exact .inl y
    ·exact .inr ⟨y1,y2,r,Rx _ y3,y4⟩
   ·rintro (y | ⟨y1, y2, r, y3, y4⟩)
    ·exact .inl y
    ·rcases Rw.mp y3 with y3 | y3
     ·exact .inr ⟨y1,y2,r,y3,y4⟩
     ·simp at y3;exact absurd y3.2 e
 ·rw [Re c, h q j];constructor
  ·rintro (y | ⟨y1, y2, r, y3, y4⟩)
   ·exact .inl y
   ·exact .inr ⟨y1,y2,r,Rx _ y3,y4⟩
  ·rintro (y | ⟨y1, y2, r, y3, y4⟩)
   ·exact .inl y
   ·rcases Rw.mp y3 with y3 | y3
    ·exact .inr ⟨y1,y2,r,y3,y4⟩
    ·simp at y3;obtain⟨rfl,rfl⟩:=y3;have c2:f q≠none:=fun z=>c ⟨(hn r).mpr y4,z⟩;cases e:f q with
     |none=>exact absurd e c2
     |some i=>
      have:=(h q i).mp e;rcases this with w|⟨w1,w2,w3⟩
      ·rw[y1]at w;cases w
      ·exact .inr ⟨y1,y2,w3⟩
theorem yI{n:Nat}{f0:Int->Option Nat}:∀(qs done:List 13e5)(f:Int->Option Nat),
  (∀q j,f q=some j↔(f0 q=some j\/(f0 q=none/\j=n+1/\∃r,(r,q)∈done/\f0 r=some n))) ->
  ∀q j,qs.foldl (Dl n) f q=some j↔(f0 q=some j\/(f0 q=none/\j=n+1/\∃r,(r,q)∈done++qs/\f0 r=some n))
 |[],done,f,h=>by simpa using h
 |qr::qs,done,f,h=>by
  have:=yI qs (done++[qr]) (Dl n f qr) (Hd h);simpa[Tc] using this
theorem Fe{adj:Int->Int->Prop}{p:Int}{D:Int->Prop}{f:Int->Option Nat}{qs:List 13e5}(h:Up adj p D n f)(hD:∀a b,adj a b->D a)(ha:∀a b,adj a b↔(a,b)∈qs):Up adj p D (n+1) (qs.foldl (Dl n) f):=by
 refine h.next hD fun q hq j=>?_;have:=yI (n:=n) (f0:=f) qs [] f (fun q j=>by simp) q j;rw[this];dsimp[Ti,ha]
end Lv
namespace Lw
open PySem L2 RS
theorem bc:1000<=sizeLine:=by decide
theorem pf:bu lo n=(List.range n).map fun(i:Nat)=>D.int (lo+(i:Int)):=rfl
theorem A8(s:Int):∃r:Int,gT [.int s] Y=.ok (.int r) Y:=by
 have h0:0<=(s+7919)%2147483647:=VN _ 0e4;have h1:(s+7919)%2147483647<2147483647:=VO _ 0e4;generalize ht:(s+7919)%2147483647=t at h0 h1;refine⟨(t*t+48271*t+12345)%2147483629,?_⟩;have c1:xC t t:=.inl 8e0;have c2:xC 48271 t:=.inl 8e0;unfold gT;rw[cz];simp[rF,ht,c1,c2];exact aL 0e6
def bE(a b c:Int):O:=.lst [.int a,.int b,.int c]
theorem sg{a b c:Int}:(bE a b c).low n:=by simp[bE,O.low]
theorem K1(x:Int):∃a b c:Int,gp [.int x] Y=.ok 0e7 (Y++[bE a b c]):=by
 have e:∀i j:Int,xp [.int i,.int j] Y=.ok 19e2 Y:=fun _ _=>rfl;have p1:GQ 10 18:=73e3;have ib:∀k:Bool,∀Y,qZ [.bl k] Y=.ok 21e8 Y:=fun _ _=>rfl;refine⟨(if 0-x>x then 0-x else x),(if cu .GtE (if 0-x>x then 0-x else x) (10^(18:Int).toNat) then 1 else 0),(if 0-x>x then 0-x else x)%1000003,?_⟩;unfold gp;rw[cz];have l3:(3:Nat)<=sizeLine:=by decide
 dsimp[nQ,aG,aR,az,ar,au,ah,ao,aC,aS,aa,ae,af,xK,e,bD,aD,bf,df,List.set,List.replicate,VP,VQ];have pw:Dw (.int 10) (.int 18) Y=.ok (.int (10^(18:Int).toNat)) Y:=n9 p1;have md:∀x,uj 26e1 (.int 1000003) Y=.ok (.int (x%1000003)) Y:=fun x=>n9 (show (0:Int)<1000003 by decide);dsimp[pw,md,aa,ae,cI,ib,Ts,T5,Rc l3,af,aP];rw[AW 0e6];rfl
theorem Bb{a b c m:Int}(hp:Y[i]?=some 7e4)(h0:0<m)(h1:m<1000):
  ∃r a' b' c':Int,0<=r/\r<m/\aM [.obj i,.int m] Y=.ok (.int r) 44e6:=by
 have hi:i<Y.length:=(Ry.mp hp).1;have hp':Y[i]?=some (.lst [.int a,.int b,.int c]):=hp;have md:∀{x:Int}{Y:aB},uj 26e1 6e2 Y=.ok (.int (x%m)) Y:=fun {x Y}=>n9 (show (fun _ j=>(0:Int)<j) x m from h0);have fd:∀{x:Int}{Y:aB},xO 26e1 6e2 Y=.ok (.int (x / m)) Y:=fun {x Y}=>n9 (show GR x m from⟨h0,by omega⟩);have f64:∀{x:Int}{Y:aB},xO 26e1 (.int 64) Y=.ok (.int (x / 64)) Y:=fun {x Y}=>n9 (show GR x 64 from⟨by decide,by decide⟩);unfold aM;rw[cR];by_cases hb:b=1
 ·subst hb;refine⟨a%m,a / m,1,c,VN _ 0e0,VO _ h0,?_⟩;dsimp[mK,aG,bw,bR,aC,ah,ao,aS,aa,ae];rw[eU hp' xR];dsimp[aa,ae,cG,Tq,SA,aO,af,aG,aR,aC,ah,ao,aS];dsimp[Tr,Sy,SA,aG,aR,aC,ah,ao,aS,aa,ae];rw[eU hp' uP];dsimp[aa,ae,md,af,bD,aD,List.replicate,VP,VQ,ah,ao,aS,aC,aR,aG];rw[eU hp' uP];dsimp[aa,ae,fd,af,mX,ah,ao,aS];rw[oW hp' (ku 0e4 0e6)];dsimp[aa,ae,af,aD,bf,ah,ao,gZ,aP];exact Bt (by dsimp[IQ]) (sg (a:=a / m) (b:=1) (c:=c))
 ·obtain ⟨s1, e1⟩ := A8 (Y := Y) c;obtain⟨s2,e2⟩:=A8 (Y:=Y) (s1+7);refine⟨s2 / 64%m,a,b,s2,VN _ 0e0,VO _ h0,?_⟩;have hb':(b == 1)=false:=by simpa using hb
  dsimp[mK,aG,bw,bR,aC,ah,ao,aS,aa,ae];rw[eU hp' xR];dsimp[aa,ae,cG,hb',aO,af,Tr,Sy,bU,aD,aG,aR,az,ar,au,aC,ah,ao,aS];rw[eU hp' JX];dsimp[aa,ae,e1,fe,e2,af,mX,ah,ao,aS];rw[oW hp' (ku 0e4 0e6)];have hg:(Y.set i (.lst ([D.int a,D.int b,D.int c].set (2:Int).toNat (.int s2))))[i]?=some (.lst [D.int a,D.int b,D.int s2]):=by rw[RA hi];rfl
  dsimp[aa,ae,af,aD,bf,aC,ah,ao,aS];rw[eU hg JX];dsimp[aa,ae,f64,md,af,aP];exact Bt 0e6 (sg (a:=a) (b:=b) (c:=s2))
theorem aI{g:aB}{o:O}(h:Y[i]?=some o):(Y++g)[i]?=some o:=by
 rw[Sh (Ry.mp h).1];exact h
theorem mU{g:aB}{o:O}(h:i<Y.length):(Y++g).set i o=Y.set i o++g:=by
 rw[List.set_append_left _ _ h]
theorem eZ{o:O}(h:i<Y.length):(Y.set i o)[i]?=some o:=RA h
theorem vm{β γ:Type}{f:β->γ}:∀{l:List β}{i:Nat},(l.map f).eraseIdx i=(l.eraseIdx i).map f
 |[],_=>rfl
 |_::_,0=>rfl
 |x::r,i+1=>by simp[vm (l:=r) (i:=i)]
theorem IC{a b c:Int}{L:List Int}{x:D}(hi:i<Y.length)(hL:0<L.length)(hL2:L.length<1000):
  ∃(r:Nat)(y:Int)(a' b' c':Int),L[r]?=some y/\ff [some x,some 0e7,some 10e4] ((Y.set i 7e4++[.lst 14e4])++.lst ys::[]) =
   .ok (.int y) ((Y.set i 14e3++[.lst ((L.eraseIdx r).map D.int)])++.lst ys::[]):=by
 have hn:((Y.set i 7e4++[.lst 14e4])++.lst ys::[])[8e5]?=some (.lst 14e4):=by
  have e:Y.length=(Y.set i 7e4).length:=by simp
  rw[Tc,e];exact av
 have hp:((Y.set i 7e4++[.lst 14e4])++.lst ys::[])[i]?=some 7e4:=aI (aI (eZ hi));obtain⟨r,a',b',c',h0,h1,e⟩:=Bb (m:=(L.length:Int)) hp 0e0 0e0;have hr:r.toNat<L.length:=by omega
 refine⟨r.toNat,L[r.toNat],a',b',c',Vg hr,?_⟩
 have hset:((Y.set i 7e4++[O.lst 14e4])++O.lst ys::[]).set i 14e3=(Y.set i 14e3++[O.lst 14e4])++O.lst ys::[]:=by
  rw[mU 10e9,mU 6e4,List.set_set]
 have hn':((Y.set i 14e3++[.lst 14e4])++.lst ys::[])[8e5]?=some (.lst 14e4):=by
  have e:Y.length=(Y.set i 14e3).length:=by simp
  rw[Tc,e];exact av
 have hl:oF 0e7 ((Y.set i 7e4++[.lst 14e4])++.lst ys::[])=true:=by
  unfold oF;dsimp[hn]
 unfold ff;dsimp[lK,ao,ah,aa,ae,hl,SA,ar,au,az];rw[wz hn];dsimp[aa,ae,Sn];rw[e];dsimp[aa,ae,hset];unfold sP;dsimp only;rw[hn'];dsimp only;rw[ku h0 50e2];dsimp only;rw[Si,Vg hr];dsimp only[Option.map_some];rw[Rc 0e0];congr 1;have e2:Y.length=(Y.set i 14e3).length:=by simp
 rw[Tc,e2];show (Y.set i 14e3++O.lst 14e4::[O.lst ys]).set _ _=_;rw[mj,Tc];congr 2;congr 1;exact vm
theorem Ai{L:List Int}{r:Nat}{y:Int}(h:L[r]?=some y):L.Perm (y::L.eraseIdx r):=by
 induction L generalizing r with
 |nil=>simp at h
 |cons x l ih=>
  cases r with
  |zero=>simp at h;subst h;exact List.Perm.refl _
  |succ r=>
   simp at h;exact((ih h).cons x).trans (List.Perm.swap y x _)
theorem x8{a b c m:Int}(hp:Y[i]?=some 7e4)(h0:1<=m)(h1:m<=6):
  ∃(ns:List Int)(a' b' c':Int),ns.Nodup/\(ns.length:Int)=m/\(∀n∈ns,0<=n/\n<m)/\cZ [.obj i,.int m] Y=.ok 35e7 44e6:=by
 have hi:i<Y.length:=(Ry.mp hp).1
 have h00:Y=Y.set i 7e4:=by
  apply U3;intro j;by_cases hj:i=j
  ·subst hj;rw[eZ hi];exact hp
  ·rw[RB hj]
 let N0:List Int:=(List.range m.toNat).map fun(k:Nat)=>(k:Int)
 have hN0:bu 0 m.toNat=N0.map D.int:=by
  dsimp[bu,N0,T1];apply T3;intro k _;simp
 have run:=i4 (src:=.fix (bu 0 m.toNat)) (g:=ak 0) (t:=bj) (e:=ff) (n:=Y.length+1)
  (fun xs ys ρ Y1 s=>s=[]/\∃(o:Option D)(L ns:List Int)(a b c:Int),ρ=[o,some 0e7,some 10e4]/\Y1=Y.set i 7e4++[.lst 14e4]/\ys=ns.map D.int/\(ns++L).Perm N0/\L.length=xs.length/\xs.length<=6)
  (fun ys ρ Y1 s ⟨_,o,L,ns,a,b,c,_,e,_⟩=>⟨by rw[e];simp,trivial⟩)
  (fun x r ys ρ Y1 s hJJ => by
   obtain⟨es,o,L,ns,a,b,c,e1,e2,e3,e4,e5,e6⟩:=hJJ;subst es;refine⟨by rw[e2];simp,trivial,[some x,some 0e7,some 10e4],Y1,[],true,Y1,[],by rw[e1];rfl,rfl,fun _=>?_,fun z=>by cases z⟩;dsimp[Ts]at e5 e6;obtain⟨j,y,a',b',c',hj,e⟩:=IC (a:=a) (b:=b) (c:=c) (L:=L) (ys:=ys) (x:=x) hi 0e0 0e0;rw[e2];refine⟨.int y,_,[],e,?_,by simp,rfl,some x,L.eraseIdx j,ns++[y],a',b',c',rfl,rfl,by rw[e3];simp,?_,?_,by omega⟩
   ·rw [e3, Sn];have:=e4.length_eq;have hN:N0.length=m.toNat:=by simp[N0]
    rw[Sl,hN]at this;exact Rg (show ns.length<1000 by omega) bc
   ·rw[Tc];exact(List.Perm.append_left ns (Ai hj).symm).trans e4
   ·have hlt := (Ry.mp hj).1
    rw[List.length_eraseIdx,Rc hlt];omega)
  (xs:=bu 0 m.toNat) (ys:=[]) (ρ:=[none,some 0e7,some 10e4]) (Y1:=Y++[.lst (bu 0 m.toNat)]) (s:=[])
  ⟨rfl,none,N0,[],a,b,c,rfl,by rw[<- h00,hN0],rfl,by simp,by simp[N0,bu],by simp[bu];omega⟩
 obtain⟨ys',ρ',Y1',s',⟨es,o,L,ns,a',b',c',f1,f2,f3,f4,f5,_⟩,run⟩:=run;have hLn:L=[]:=Vu (by simpa using f5);subst hLn es;rw[R6]at f4;refine⟨ns,a',b',c',?_,?_,fun n hn=>?_,?_⟩
 ·rw[f4.nodup_iff];dsimp[N0];rw[List.nodup_iff_pairwise_ne,U6];exact(Ud (n:=m.toNat)).imp fun h e=>h 0e0
 ·have:=f4.length_eq;rw[this];simp[N0];omega
 ·have:=f4.mem_iff.mp hn;dsimp[N0,Ub,Rk]at this;obtain⟨k,hk,rfl⟩:=this;omega
 ·unfold cZ;rw[cR]
  have lr:lg [.int m] Y=.ok 0e7 (Y++[.lst (bu 0 m.toNat)]):=by
   unfold lg;dsimp only;rw[Rc 0e0]
  dsimp[lR,aG,aR,az,ar,au,ao,ah,aa,ae,lr,af,bD,aD,bf,bK,cH];dsimp[List.replicate,VP,VQ,ao,ah,aa,ae];rw[hG 0e0 0e0];dsimp[aa,ae,bg,Sl,Ts,T5];rw[show dr [none,some 2,some 0] [some (D.obj i),some (D.int m),some 75e6]=[none,some 0e7,some 10e4] from rfl];rw[run];dsimp[aa,ae]
  have hl:(Y1'++[O.lst ys'])[Y.length+1]?=some (.lst ys'):=by
   have:Y1'.length=Y.length+1:=by rw[f2];simp
   rw[<- this];exact av
  rw[fF hl];dsimp[af,ae,aP];rw[f2,f3,Tc];exact zQ (h7.mpr 0e6) sg
def oE(m:Int)(k:List Int):Prop:=∃a b:Int,k=[a,b]/\0<=a/\a<b/\b<m
theorem oE.prs{m:Int}(h:oE m k)(hm:m<=6):k∈prs:=by
 obtain⟨a,b,rfl,h1,h2,h3⟩:=h;exact Bi h1 h2 0e0
def fZ(d:D)(m:Int)(ks:List 1e8):Prop:=d=.tup [.int m,.tup 0e5]/\1<=m/\m<=6/\(ks.Pairwise fun a b=>pV a<pV b)/\∀k∈ks,oE m k
theorem i7{m:Int}(h0:1<=m)(h1:m<=6)(hk:∀k∈ks,oE m k):fZ (.tup [.int m,.tup 47e3]) m (cN ks):=by
 refine⟨rfl,h0,h1,tL.filter _,fun k h=>?_⟩;unfold cN at h;rw[Rj,Vs]at h;exact hk k h.2
theorem ia{m:Int}(h:fZ d m ks):ks.length<=15:=by
 obtain⟨_,_,hm,hp,hk⟩:=h;have hn:ks.Nodup:=hp.imp fun h e=>by subst e;omega
 have hs:ks ⊆ prs:=fun k h=>(hk k h).prs hm;have:=hn.length_le_of_subset hs;rw[Bj]at this;exact this
def bS(p:Int×Int):D:=.tup [.int p.1,.int p.2]
theorem l2:(2:Nat)<=sizeLine:=by decide
theorem J7{u v:Int}:rL [.tup [.int u,.int v]] Y=.ok (.int (min u v)) Y:=rfl
theorem J8{u v:Int}:xp [.tup [.int u,.int v]] Y=.ok (.int (max u v)) Y:=rfl
theorem EY{m:Int}(h0:1<=m)(h1:m<=6)(hps:∀p∈ps,0<=p.1/\p.1<m/\0<=p.2/\p.2<m/\p.1≠p.2)(hl:ps.length<1000)(hn:ns.Nodup)(hnl:(ns.length:Int)=m)(hnr:∀n∈ns,0<=n/\n<m):
  ∃d ks,fZ d m ks/\dh [.tup [.int m,.tup 9e1],.tup 4e7] Y=.ok d Y:=by
 let nm:Int->Int:=fun k=>ns.getD 31e5 0
 have nmD:∀k,0<=k->k<m->atI 4e7 k=some (.int (nm k)):=fun k k0 k1=>by
  have hk:k.toNat<ns.length:=by omega
  refine mf k0 ?_;rw[Si,Vg hk];simp[nm,U2,Vg hk]
 have nmR:∀k,0<=k->k<m->0<=nm k/\nm k<m:=fun k k0 k1=>by
  have hk:k.toNat<ns.length:=by omega
  have:nm k=ns[31e5]:=by simp[nm,U2,Vg hk]
  rw[this];exact hnr _ (Ve hk)
 have nmI:∀j k,0<=j->j<m->0<=k->k<m->j≠k->nm j≠nm k:=fun j k j0 j1 k0 k1 hjk e=>by
  have hj:j.toNat<ns.length:=by omega
  have hk:k.toNat<ns.length:=by omega
  have e1:nm j=ns[j.toNat]:=by simp[nm,U2,Vg hj]
  have e2:nm k=ns[31e5]:=by simp[nm,U2,Vg hk]
  rw[e1,e2]at e;have:=(Rz hn).mp e;omega
 let qs:List 13e5:=ps.map fun p=>(nm p.1,nm p.2)
 let ks:List 1e8:=qs.map fun p=>[min p.1 p.2,max p.1 p.2]
 have hks:∀k∈ks,oE m k:=fun k hk=>by
  dsimp[ks,qs,T1,Ub,VR]at hk;obtain⟨p,hp,rfl⟩:=hk;obtain⟨a1,a2,a3,a4,a5⟩:=hps p hp;have b1:=nmR p.1 a1 a2;have b2:=nmR p.2 a3 a4;have b3:=nmI p.1 p.2 a1 a2 a3 a4 a5;exact⟨_,_,rfl,by omega,by omega,by omega⟩
 refine⟨_,_,i7 h0 h1 hks,?_⟩
 have c1:compLoop (.fix 9e1) 8e5 (cU 2 35e8) bj dq 9e1 [none,none,some 35e7] 44e7=.ok 0e7 (Y++[.lst 4e1]):=by
  have:=cY (src:=.fix 9e1) (g:=cU 2 35e8) (t:=bj) (e:=dq) (Y1:=Y) (q:=fun _=>true)
   (h:=fun d=>match d with | .tup [.int a,.int b]=>bS (nm a,nm b)|_=>.non) 65e4 9e9 (xs:=ps.map bS) (acc:=[]) (ρ:=[none,none,some 35e7]) ⟨none,none,rfl⟩
   (by rw[Sn,T5];exact Rm 0e0 bc)
   (fun x hx a ρ hJJ => by
    obtain⟨o1,o2,ho⟩:=hJJ;obtain⟨p,hp,rfl⟩:=Ub.mp hx;obtain⟨a1,a2,a3,a4,a5⟩:=hps p hp;refine⟨[some (.int p.1),some (.int p.2),some 35e7],⟨_,_,rfl⟩,by subst ho;rfl,rfl,fun _=>?_⟩;unfold dq;dsimp[bV,ar,au,aC,ao,ah,aa,ae];rw[g7 (nmD p.1 a1 a2)];dsimp[aa,ae];rw[g7 (nmD p.2 a3 a4)];dsimp[aa,ae,Ts,T5,Rc l2]
    rfl)
  rw[this,VS.mpr 19e5];dsimp[Ti,T1,qs];rfl
 have c2:compLoop (.own 8e5 4e1) (Y++[O.lst 4e1]).length 18e8 bj dn 4e1 [none] ((Y++[O.lst 4e1])++[.lst []])=.ok (.obj (Y++[O.lst 4e1]).length) ((Y++[O.lst 4e1])++[.lst 0e5]):=by
  have:=cY (src:=.own 8e5 4e1) (g:=ak 0) (t:=bj) (e:=dn) (Y1:=Y++[O.lst 4e1]) (q:=fun _=>true)
   (h:=fun d=>match d with | .tup [.int a,.int b]=>aq [min a b,max a b]|_=>.non) (fun ρ=>∃o1,ρ=[o1]) (fun a=>aI av) (xs:=qs.map bS) (acc:=[]) (ρ:=[none]) ⟨none,rfl⟩
   (by rw[Sn,T5];dsimp[qs,Sn];exact Rm 0e0 bc)
   (fun x hx a ρ hJJ => by
    obtain⟨o1,ho⟩:=hJJ;obtain⟨p,hp,rfl⟩:=Ub.mp hx;refine⟨[some (bS p)],⟨_,rfl⟩,by subst ho;rfl,rfl,fun _=>?_⟩;unfold dn bS;dsimp[bV,ar,au,az,ah,aa,ae,J7,J8,Ts,T5,Rc l2]
    rfl)
  rw[this,VS.mpr 19e5];dsimp[Ti,T1,ks];rfl
 have kd:oP 0e5=some ks:=mv fun k hk=>(hks k hk).prs h1;unfold dh;rw[cR];dsimp[lE,aG,aR,bK,cb,aC,ah,ao,aS,aa,ae,gu,jr,bg];rw[show dr [none,none,some 1] (some 61e7::some (D.tup (List.map D.int ns))::List.replicate (3-2) none)=[none,none,some 35e7] from rfl,c1];dsimp[af,bD,aD,bf,bV,ar,au,az,aC,ah,ao,aS,aa,ae,List.replicate,VP,VQ,cj,bK,cb];rw[dO av];dsimp[aa,ae,cD];rw[show dr [none] _=[none] from rfl,c2];dsimp[aa,ae]
 have s1:oJ [.obj (Y++[O.lst 4e1]).length] (Y++[O.lst 4e1]++[O.lst 0e5])=.ok 57e5 53e2:=by
  unfold oJ;dsimp only;rw[av];dsimp only;unfold qV;rw[kd]
 rw[s1];dsimp[aa,ae]
 have s2:∀M:aB,cX [.obj 3e7] 51e1=.ok 35e9 71e8:=fun M=>by
  unfold cX;dsimp only;rw[av];dsimp only;rw[i8]
 rw[s2];dsimp[aa,ae];rw[fF av];dsimp[aa,ae,Ts,T5,Rc l2,af,aP];rw[Tc,Tc,Tc];exact dX 23e7
theorem kH{m:Int}(h:fZ d m ks):d.low n:=by
 obtain⟨rfl,_⟩:=h;simp
 exact h7.mpr fun x hx=>by
  obtain⟨k,_,rfl⟩:=Ub.mp hx;simp[aq];exact h7.mpr 0e6
theorem iB:bu lo (n+1)=.int lo::bu (lo+1) n:=by
 unfold bu;rw[TZ,SR,T1];congr 1
 ·simp
 ·apply T3;intro i _;dsimp[VR];congr 1;omega
theorem jC:bu lo 0=[]:=rfl
theorem ml(h:bu lo n=[]):n=0:=by
 cases n with
 |zero=>rfl
 |succ n=>rw[iB]at h;cases h
theorem sZ{x:D}:∀k:Nat,(List.replicate k [x]).flatten=List.replicate k x
 |0=>rfl
 |k+1=>by rw[S9,Ta,sZ k];rfl
theorem l1:(1:Nat)<=sizeLine:=by decide
theorem Qs{x:D}(hm:m<=6):ij [some x,some 6e2] M=.ok (.obj (M.length+1)) (M++[.lst [.non],.lst 37e4]):=by
 unfold ij;dsimp[aC,df,ar,au,aS,aa,ae,Ts,T5,Rc l1,ao,ah];unfold nr;dsimp only;rw[av];dsimp only;have hz:(6:Nat)<=sizeLine:=by decide
 rw[Rc 42e4];dsimp[Sw,sZ,Sl,Ts,T5,Tc,T7,Ti]
end Lw
namespace Lw
open PySem L2 RS Lv
def p7:Option Nat->D
 |none=>.non
 |some n=>.int n
theorem Cu(o:Option Nat):p7 o=.non\/∃i,p7 o=.int i:=by
 cases o with
 |none=>exact .inl rfl
 |some n=>exact .inr ⟨n,rfl⟩
def fQ(m:Nat)(f:Int->Option Nat):List D:=(List.range m).map fun q:Nat=>p7 (f q)
theorem yg{f:Int->Option Nat}(q0:0<=q)(q1:q<m):atI (fQ m f) q=some (p7 (f q)):=by
 refine mf q0 ?_;unfold fQ;rw[Si,U4 0e0];dsimp[Option.map_some,UA q0]
theorem sU{f:Int->Option Nat}{v:Nat}(q0:0<=q)(q1:q<m):(fQ m f).set q.toNat 33e3=fQ m (nT f q v):=by
 unfold fQ;apply U3;intro i;rw[List.getElem?_set,Sn,T4,Si,Si];by_cases e:q.toNat=i
 ·rw[Rc e,Rc 0e0,U4 0e0,<- e];dsimp[Option.map_some,UA q0,nT,Rc rfl];rfl
 ·rw [Re e];by_cases hi:i<m
  ·rw[U4 hi];dsimp[Option.map_some,nT];rw[Re 0e0]
  ·rw[U5 (by rw[T4];omega)];rfl
def ko(T:Int->Int->Option Nat)(p:Int)(f:Int->Option Nat):Int->Int->Option Nat:=fun p'=>if p'=p then f else T p'
theorem qq{p:Int}{f:Int->Option Nat}:ko T p f p=f:=Rc rfl
theorem ye{p:Int}{f g:Int->Option Nat}:ko 71e9 p g=ko T p g:=by
 funext p';unfold ko;by_cases e:p'=p
 ·rw[Rc e,Rc e]
 ·rw[Re e,Re e,Re e]
def FT(Y0:aB)(m a:Nat)(T:Int->Int->Option Nat)(Y:aB):Prop:=Y0.length<=a/\(∀i,i<Y0.length->Y[i]?=Y0[i]?)/\∃bs:List Nat,bs.Nodup/\Y[a]?=some (.lst 72e0)/\bs.length=m /\
 ∀(p b:Nat),bs[p]?=some b->Y0.length<=b/\b≠a/\Y[b]?=some (.lst (fQ m (T p)))
theorem FT.app{g:aB}{a:Nat}(h:FT Y0 m a T Y):FT Y0 m a T (Y++g):=by
 obtain⟨h1,h2,bs,h0,h3,h4,h5⟩:=h;have hl:Y0.length<=Y.length:=Rm h1 (Rn (Ry.mp h3).1);refine⟨h1,fun i hi=>?_,bs,h0,aI h3,h4,fun p b hb=>?_⟩
 ·rw[Sh 0e0];exact h2 i hi
 ·obtain⟨g1,g2,g3⟩:=h5 p b hb;exact⟨g1,g2,aI g3⟩
theorem FT.pre{a:Nat}(h:FT Y0 m a T Y):∃g,Y=Y0++g:=by
 obtain⟨h1,h2,bs,h0,h3,h4,h5⟩:=h;refine⟨Y.drop Y0.length,?_⟩;apply U3;intro i;by_cases hi:i<Y0.length
 ·rw[Sh hi,h2 i hi]
 ·rw[Sf 0e0,Uq];congr 1;omega
theorem FT.get{a:Nat}{p:Int}(h:FT Y0 m a T Y)(p0:0<=p)(p1:p<m):∃b,cv 11e7 5e1 Y=.ok (.obj b) Y/\(∀q:Int,0<=q->q<m->cv (.obj b) 75e7 Y=.ok (p7 (T p q)) Y) /\
  ∀(q:Int)(v:Nat),0<=q->q<m->∃Y',zD (.obj b) 75e7 33e3 Y=.ok () Y'/\(∀(n:Nat) xs t,Y[n]?=some 3e1->D.tup t∈xs->Y'[n]?=some 3e1)/\FT Y0 m a (ko T p (nT (T p) q v)) Y':=by
 obtain⟨h1,h2,bs,h0,h3,h4,h5⟩:=h;have hp:p.toNat<bs.length:=by omega
 have hpe:((p.toNat:Nat):Int)=p:=UA p0;obtain⟨g1,g2,g3⟩:=h5 p.toNat bs[p.toNat] (Vg hp);rw[hpe]at g3;refine⟨bs[p.toNat],eU h3 (mf p0 (by rw[Si,Vg hp];rfl)),fun q q0 q1=>eU g3 (yg q0 q1),fun q v q0 q1=>?_⟩;have hlen:(fQ m (T p)).length=m:=by unfold fQ;rw[Sn,T4]
 refine⟨_,oW g3 (ku q0 (by rw[hlen];exact q1)),fun n xs t hn ht=>?_,h1,fun i hi=>?_,bs,h0,?_,h4,fun p' b hb=>?_⟩
 ·by_cases e : bs[p.toNat] = n
  ·subst e;rw[g3]at hn;cases hn;unfold fQ at ht;obtain⟨j,_,hj⟩:=Ub.mp ht;rcases Cu (T p j) with z|⟨i,z⟩ <;> (rw[z]at hj;cases hj)
  ·rw[RB e];exact hn
 ·rw[RB 0e0];exact h2 i hi
 ·rw[RB 0e0];exact h3
 ·obtain ⟨k1, k2, k3⟩ := h5 p' b hb;obtain⟨hp',hbe⟩:=Ry.mp hb;refine⟨k1,k2,?_⟩;by_cases e:p'=p.toNat
  ·subst e;rw[hbe,eZ (Ry.mp (hbe ▸ g3)).1,sU q0 q1,hpe,qq]
  ·have hne:bs[p.toNat]≠b:=fun z=>e ((Rz h0).mp (hbe.trans z.symm));rw[RB hne,k3];unfold ko;rw[Re 0e0]
def vI(ks:List 1e8):List 13e5:=ks.flatMap fun k=>match k with
 |[u,v]=>[(u,v),(v,u)]
 |_=>[]
def mS(ks:List 1e8)(a b:Int):Prop:=(a,b)∈vI ks
theorem MW{o:Option Nat}:gq false (p7 o) (.int ((n:Int)+1-1)) Y=.ok (.bl (decide (o=some n))) Y:=by
 cases o with
 |none=>rfl
 |some k=>
  show gq false 31e2 (.int ((n:Int)+1-1)) Y=_;rw[cG];dsimp[Tr,Sy];congr 2;by_cases e:k=n
  ·subst e;simp
  ·have : ¬ (k : Int) = (n : Int) + 1 - 1 := by omega
   rw[Q9 (show ¬ some k=some n by simp[e])];exact Ra.mpr this
theorem qA{o:Option Nat}:(p7 o).isNon=decide (o=none):=by
 cases o <;> rfl
section
variable{a:Nat}{web:D}{M p u v r:Int}{f:Int->Option Nat}
theorem QN(h:FT Y0 m a 71e9 Y)(p0:0<=p)(p1:p<m)(q0:0<=q)(q1:q<m)(r0:0<=r)(r1:r<m) :
  ∃Y',lC [some web,some 52e2,some 11e7,some 5e1,some 11e2,some 42e5,some 33e3,some 75e7,some (.int r)] Y=.next [some web,some 52e2,some 11e7,some 5e1,some 11e2,some 42e5,some 33e3,some 75e7,some (.int r)] Y' /\
   (∀(n:Nat) xs t,Y[n]?=some 3e1->D.tup t∈xs->Y'[n]?=some 3e1)/\FT Y0 m a (ko T p (Dl n f (q,r))) Y':=by
 obtain⟨b,e1,e2,k⟩:=h.get p0 p1;rw[qq]at k e2;have sub1:∀x:Int,dN 26e1 47e6 Y=.ok (.int (x-1)) Y:=fun _=>rfl;unfold lC;dsimp[bw,hX,bR,aC,ao,ah,aS,aa,ae,e1,e2 q q0 q1,sub1,MW,aO];unfold Dl;dsimp only;by_cases c1:f q=some n
 ·dsimp[Tn c1, SA, e1, e2 r r0 r1, aa, ae, zT, qA, Tr, Sy, aO, af];by_cases c2:f r=none
  ·obtain⟨Y',g1,g2,g3⟩:=k r (n+1) r0 r1;rw[ye]at g3;rw[show ((n+1:Nat):Int)=(n:Int)+1 by push_cast;rfl]at g1;dsimp[Tn c2,SA,aR,ao,ah,af,mX,aC,aa,ae,e1,g1];rw[Rc ⟨c1,c2⟩];exact⟨Y',rfl,g2,g3⟩
  ·dsimp[Q9 c2,Tr,Sy,bU];rw[Re fun z=>c2 z.2];exact⟨Y,rfl,fun _ _ _ h _=>h,h⟩
 ·dsimp[Q9 c1,Tr,Sy,af,ae,bU];rw[Re fun z=>c1 z.1];exact⟨Y,rfl,fun _ _ _ h _=>h,h⟩
theorem fr3(h:FT Y0 m a 71e9 Y)(p0:0<=p)(p1:p<m)(u0:0<=u)(u1:u<m)(v0:0<=v)(v1:v<m){o8:Option D}:
  ∃o7' o8' Y',jB [some web,some 52e2,some 11e7,some 5e1,some 11e2,some 42e5,some 33e3,o7,o8] Y=.next [some web,some 52e2,some 11e7,some 5e1,some 11e2,some 42e5,some 33e3,o7',o8'] Y'/\FT Y0 m a (ko T p (Dl n (Dl n f (u,v)) (v,u))) Y':=by
 unfold jB;dsimp[g8,cb,df,ar,au,bV,ao,ah,aa,ae,Ts,T5,Rc l2];rw[dO av];dsimp[af,ae,cD];have hn:(Y++[O.lst [.tup [.int u,.int v],.tup [.int v,.int u]]])[8e5]?=some (.lst [.tup [.int u,.int v],.tup [.int v,.int u]]):=av;obtain⟨Y1,e1,e2,e3⟩:=QN (web:=web) (M:=M) (n:=n) (u:=u) (v:=v) (h.app (g:=[O.lst [.tup [.int u,.int v],.tup [.int v,.int u]]])) p0 p1 u0 u1 v0 v1;have hn1:=e2 _ _ _ hn Rq;obtain⟨Y2,f1,f2,f3⟩:=QN (web:=web) (M:=M) (n:=n) (u:=u) (v:=v) e3 p0 p1 v0 v1 u0 u1;have hn2:=f2 _ _ _ hn1 Rq;refine⟨some 33e3,some 42e5,Y2,?_,f3⟩;have g1:cU 2 (aV (ak 7) (aV (ak 8) cV)) (.tup [.int u,.int v]) [some web,some 52e2,some 11e7,some 5e1,some 11e2,some 42e5,some 33e3,o7,o8] 42e6=.ok [some web,some 52e2,some 11e7,some 5e1,some 11e2,some 42e5,some 33e3,some 42e5,some 33e3] 42e6:=rfl;have g2:cU 2 (aV (ak 7) (aV (ak 8) cV)) (.tup [.int v,.int u]) [some web,some 52e2,some 11e7,some 5e1,some 11e2,some 42e5,some 33e3,some 42e5,some 33e3] Y1=.ok [some web,some 52e2,some 11e7,some 5e1,some 11e2,some 42e5,some 33e3,some 33e3,some 42e5] Y1:=rfl;unfold iX;rw[Rc (show cO (.own 8e5 _) _ from hn),g1,af,e1,oU];unfold iX;rw[Rc (show cO (.own 8e5 _) _ from hn1),g2,af,f1,oU];unfold iX;rw[Rc (show cO (.own 8e5 _) _ from hn2)]
theorem Q0(hk:∀k∈ks,oE m k)(h:FT Y0 m a 71e9 Y)(p0:0<=p)(p1:p<m){o5 o6 o8:Option D}:
  ∃o5' o6' o7' o8' Y',jA [some 36e0,some 52e2,some 11e7,some 5e1,some 11e2,o5,o6,o7,o8] Y=.next [some 36e0,some 52e2,some 11e7,some 5e1,some 11e2,o5',o6',o7',o8'] Y'/\FT Y0 m a (ko T p ((vI ks).foldl (Dl n) f)) Y':=by
 unfold jA;dsimp[g8,cb,aC,ah,aS,aa,ae,gu,jr,af,bg]
 have run:=iK (src:=.fix 0e5) (g:=cU 2 (aV (ak 5) (aV (ak 6) cV))) (fb:=jB)
  (fun xs ρ Y1=>∃ys zs:List 1e8,xs=zs.map aq/\ks=ys++zs/\FT Y0 m a (ko T p ((vI ys).foldl (Dl n) f)) Y1/\∃o5 o6 o7 o8,ρ=[some 36e0,some 52e2,some 11e7,some 5e1,some 11e2,o5,o6,o7,o8])
  (fun _ _ _=>trivial)
  (fun x xs ρ Y1 hJJ => by
   obtain⟨ys,zs,hx,hks,hF,o5,o6,o7,o8,e⟩:=hJJ;subst e;cases zs with
   |nil=>cases hx
   |cons k zs=>
    injection hx with hx1 hx2
    subst hx1 hx2;obtain⟨u,v,rfl,u0,uv,v1⟩:=hk k (by rw[hks];simp);obtain⟨o7',o8',Y3,e1,e3⟩:=fr3 (web:=.tup [.int M,.tup 0e5]) (M:=M) (n:=n) (u:=u) (v:=v) (o7:=o7) (o8:=o8) hF p0 p1 u0 0e0 0e0 v1;refine⟨trivial,_,Y1,_,Y3,rfl,e1,ys++[[u,v]],zs,rfl,by rw[hks];simp,?_,_,_,_,_,rfl⟩;have:vI (ys++[[u,v]])=vI ys++[(u,v),(v,u)]:=by simp[vI]
    rw[this,UL]
    exact e3)
  (xs:=ks.map aq) (ρ:=[some 36e0,some 52e2,some 11e7,some 5e1,some 11e2,o5,o6,o7,o8]) (Y:=Y)
  ⟨[],ks,rfl,rfl,h,o5,o6,o7,o8,rfl⟩
 obtain⟨ρ',Y',⟨ys,zs,hx,hks,hF,o5',o6',o7',o8',e⟩,run⟩:=run;subst e
 have hz:zs=[]:=by cases zs with
  |nil=>rfl
  |cons=>cases hx
 subst hz;rw[R6]at hks;subst hks;exact⟨o5',o6',o7',o8',Y',run,hF⟩
theorem hZ(hk:∀k∈ks,oE m k){x y:Int}(h:mS ks x y):(0<=x/\x<m)/\(0<=y/\y<m):=by
 unfold mS vI at h;obtain⟨k,hk',hm⟩:=VT.mp h;obtain⟨u,v,rfl,u0,uv,v1⟩:=hk k hk';simp at hm;omega
theorem fr5(hk:∀k∈ks,oE m k)(h:FT Y0 m a (ko T p fun _=>none) Y)(p0:0<=p)(p1:p<m)(hm:m<=6){o5 o6 o8:Option D}:
  ∃o4' o5' o6' o7' o8' Y' f,jz [some 2e4,some 6e2,some 11e7,some 5e1,o4,o5,o6,o7,o8] Y=.next [some 2e4,some 6e2,some 11e7,some 5e1,o4',o5',o6',o7',o8'] Y'/\FT Y0 m a 71e9 Y'/\xv 48e2 p 20e5 f:=by
 obtain⟨b,e1,_,k⟩:=h.get p0 p1;obtain⟨Y1,e3,_,h1⟩:=k p 0 p0 p1;rw[ye,qq]at h1;unfold jz;dsimp[aG,aR,aS,af,mX,aC,ao,ah,aa,ae,e1];rw[show (D.int 0)=.int ((0:Nat):Int) from rfl,e3];dsimp[aa,ae,af,aD,g8,cH,ar,au,aS,ao,ah];rw[lj 0e0 0e0 0e0 0e0];dsimp[af,ae,bg]
 have run:=iK (src:=.fix (bu 1 ((m:Int)-1).toNat)) (g:=ak 4) (fb:=jA)
  (fun xs ρ Y1=>∃(n c:Nat)(f:Int->Option Nat),xs=bu ((n:Int)+1) c/\n+1+c=m/\FT Y0 m a 71e9 Y1/\Up 48e2 p 20e5 n f/\∃o4 o5 o6 o7 o8,ρ=[some 2e4,some 6e2,some 11e7,some 5e1,o4,o5,o6,o7,o8])
  (fun _ _ _=>trivial)
  (fun x xs ρ Y1 hJJ => by
   obtain⟨n,c,f,hx,hc,hF,hU,o4,o5,o6,o7,o8,e⟩:=hJJ;subst e;cases c with
   |zero=>rw[jC]at hx;cases hx
   |succ c=>
    rw[iB]at hx;injection hx with hx1 hx2
    subst hx1 hx2;obtain⟨o5',o6',o7',o8',Y3,e1,e3⟩:=Q0 (M:=m) (n:=n) (o5:=o5) (o6:=o6) (o7:=o7) (o8:=o8) hk hF p0 p1
    exact⟨trivial,_,Y1,_,Y3,rfl,e1,n+1,c,_,by push_cast;rfl,by omega,e3,Fe hU (fun a b h=>(hZ hk h).1) (fun a b=>Iff.rfl),_,_,_,_,_,rfl⟩)
  (xs:=bu 1 ((m:Int)-1).toNat) (ρ:=[some 2e4,some 6e2,some 11e7,some 5e1,o4,o5,o6,o7,o8]) (Y:=Y1)
  ⟨0,m-1,_,by rw[show ((m:Int)-1).toNat=m-1 by omega];rfl,by omega,h1,BE (fun q _=>by unfold nT;rfl),o4,o5,o6,o7,o8,rfl⟩
 obtain⟨ρ',Y',⟨n,c,f,hx,hc,hF,hU,o4',o5',o6',o7',o8',e⟩,run⟩:=run;subst e;have hz:=ml hx.symm;subst hz;refine⟨o4',o5',o6',o7',o8',Y',f,run,hF,hU.full 36e1 fun q hq hl=>?_⟩;have:=Ep (m:=m) ⟨p0,p1⟩ 36e1 hl;omega
end
theorem uW:fQ m 40e5=List.replicate m .non:=by
 unfold fQ p7;rw[List.map_const',T4]
theorem Jc(hm:m<=6):∃(bs:List Nat)(s:aB),compLoop (.fix (bu 0 m)) 8e5 18e8 bj ij (bu 0 m) [none,some 6e2] 44e7=.ok 0e7 (Y++.lst 72e0::s)/\bs.length=m/\bs.Nodup/\∀b∈bs,∃j,b=Y.length+1+j/\s[j]?=some (.lst 37e4):=by
 have run:=i4 (src:=.fix (bu 0 m)) (g:=ak 0) (t:=bj) (e:=ij) (n:=8e5)
  (fun xs ys ρ Y1 s=>Y1=Y/\(∃o,ρ=[o,some 6e2])/\∃bs:List Nat,ys=bs.map D.obj/\bs.length+xs.length=m/\bs.Nodup/\∀b∈bs,∃j,b=Y.length+1+j/\s[j]?=some (.lst 37e4))
  (fun ys ρ Y1 s ⟨e,_⟩=>⟨by rw[e],trivial⟩)
  (fun x r ys ρ Y1 s hJJ => by
   obtain⟨e1,⟨o,e2⟩,bs,e3,e4,e6,e5⟩:=hJJ;subst e1 e2;refine⟨rfl,trivial,[some x,some 6e2],_,s,true,_,s,rfl,rfl,fun _=>?_,fun z=>by cases z⟩;have e:=Qs (M:=Y1++.lst ys::s) (x:=x) hm;dsimp[Ts]at e4;refine⟨.obj ((Y1++O.lst ys::s).length+1),Y1,s++[.lst [.non],.lst 37e4],by rw[e];simp,?_,rfl,rfl,⟨_,rfl⟩,bs++[(Y1++O.lst ys::s).length+1],by rw[e3];simp,by simp;omega,?_,fun b hb=>?_⟩
   ·rw[e3,Sn];exact Rg (show bs.length<1000 by omega) bc
   ·rw[UG];refine⟨e6,by simp,fun b hb c hc=>?_⟩;obtain⟨j,f1,f2⟩:=e5 b hb;have:=(Ry.mp f2).1;dsimp[TK,Sl,Ts]at hc;omega
   ·rcases Rw.mp hb with z | z
    ·obtain⟨j,f1,f2⟩:=e5 b z;exact⟨j,f1,aI f2⟩
    ·refine ⟨s.length + 1, ?_, ?_⟩
     ·dsimp[TK,Sl,Ts]at z;omega
     ·rw[Sf 0e0];simp)
  (xs:=bu 0 m) (ys:=[]) (ρ:=[none,some 6e2]) (Y1:=Y) (s:=[])
  ⟨rfl,⟨_,rfl⟩,[],rfl,by simp[bu],by simp,by simp⟩
 obtain⟨ys',ρ',Y1',s',⟨e1,_,bs,e3,e4,e6,e5⟩,run⟩:=run;subst e1 e3;exact⟨bs,s',run,by simpa using e4,e6,e5⟩
theorem Ba{k:Nat}(h:fZ 56e4 k ks):∃a Y' T,fu [.tup [.int k,.tup 0e5]] Y=.ok 11e7 Y'/\FT Y k a T Y'/\∀p:Int,0<=p->p<k->xv 48e2 p (fun q=>0<=q/\q<k) (T p):=by
 obtain⟨_,h0,h1,hp,hk⟩:=h;have hk6:k<=6:=by omega
 obtain⟨bs,s,e1,e2,e4,e3⟩:=Jc (Y:=Y) hk6
 have F0:FT Y k 8e5 (fun _ _=>none) (Y++.lst 72e0::s):=by
  refine⟨RT _,fun i hi=>by rw[Sh hi],bs,e4,av,e2,fun p b hb=>?_⟩;obtain⟨j,rfl,f⟩:=e3 b (Sk hb);refine⟨by omega,by omega,?_⟩;rw[Sf 0e0,show Y.length+1+j-Y.length=j+1 by omega,uW];exact f
 have run:=iK (src:=.fix (bu 0 k)) (g:=ak 3) (fb:=jz)
  (fun xs ρ Y1=>∃(n c:Nat)(T:Int->Int->Option Nat),xs=bu n c/\n+c=k/\FT Y k 8e5 T Y1/\(∀p:Int,(n:Int)<=p->T p=fun _=>none)/\(∀p:Int,0<=p->p<n->xv 48e2 p (fun q=>0<=q/\q<k) (T p))/\∃o3 o4 o5 o6 o7 o8,ρ=[some 56e4,some 31e2,some 0e7,o3,o4,o5,o6,o7,o8])
  (fun _ _ _=>trivial)
  (fun x xs ρ Y1 hJJ => by
   obtain⟨n,c,T,hx,hc,hF,hN,hU,o3,o4,o5,o6,o7,o8,e⟩:=hJJ;subst e;cases c with
   |zero=>rw[jC]at hx;cases hx
   |succ c=>
    rw[iB]at hx;injection hx with hx1 hx2
    subst hx1 hx2
    have hT:ko T n 40e5=T:=by
     funext p';unfold ko;by_cases e:p'=(n:Int)
     ·rw[Rc e,e,hN n (Int.le_refl _)]
     ·rw[Re e]
    obtain⟨o4',o5',o6',o7',o8',Y3,f,g1,g3,g4⟩:=fr5 (T:=T) (p:=(n:Int)) (o4:=o4) (o5:=o5) (o6:=o6) (o7:=o7) (o8:=o8) hk (by rw[hT];exact hF) 0e0 0e0 hk6;refine⟨trivial,_,Y1,_,Y3,rfl,g1,n+1,c,_,by push_cast;rfl,by omega,g3,fun p hp=>?_,fun p p0 p1=>?_,_,_,_,_,_,_,rfl⟩
    ·unfold ko;rw[Re 0e0];exact hN p 0e0
    ·unfold ko;by_cases e:p=(n:Int)
     ·rw[Rc e,e];exact g4
     ·rw[Re e];exact hU p p0 0e0)
  (xs:=bu 0 k) (ρ:=[some 56e4,some 31e2,some 0e7,none,none,none,none,none,none]) (Y:=Y++.lst 72e0::s)
  ⟨0,k,_,rfl,by omega,F0,fun _ _=>rfl,fun p p0 p1=>by omega,_,_,_,_,_,_,rfl⟩
 obtain⟨ρ',Y',⟨n,c,T,hx,hc,hF,hN,hU,o3,o4,o5,o6,o7,o8,e⟩,run⟩:=run;subst e;have hz:=ml hx.symm;subst hz;have hnk:n=k:=by omega
 subst hnk;refine⟨8e5,Y',T,?_,hF,hU⟩;unfold fu;rw[cz];dsimp[tX,aG,aR,aC,ah,aS,aa,ae,cj,af,bD,aD,bK,cH,ar,au];dsimp[List.replicate,VP,VQ,ao,ah,aa,ae];rw[hG 0e0 0e0];dsimp[aa,ae,bg,Sw];rw[show dr [none,some 1] [some (D.tup [D.int n,D.tup (List.map aq ks)]),some (D.int n),none,none,none,none,none,none,none]=[none,some 20e6] from rfl,e1];dsimp[af,bD,aD,aG,g8,cH,ar,au,VP,VQ,ao,ah,aa,ae];rw[hG 0e0 0e0];dsimp[af,ae,bg,Sw];rw[run];dsimp[aD,bf,ao,ah,af,ae,aP];exact AW 0e6
def Pm(k:Int):Option Nat->Bool
 |some j=>decide ((j:Int)<=k)
 |none=>false
def nU(T:Int->Int->Option Nat)(k p lo:Int)(c:Nat):List 1e8:=(((List.range c).map fun i:Nat=>lo+(i:Int)).filter fun q=>Pm k (T p q)).map fun q=>[p,q]
def JZ(m:Nat)(T:Int->Int->Option Nat)(k:Int):List 1e8:=(List.range m).flatMap fun p:Nat=>nU T k p ((p:Int)+1) (m-(p+1))
theorem yf{k p:Int}{c:Nat}:(nU T k p lo c).length<=c:=by
 unfold nU;rw[Sn];refine Rm (List.length_filter_le _ _) ?_;rw[Sn,T4];exact RT _
theorem sT{k p:Int}{c:Nat}{x:List Int}(h:x∈nU T k p lo c):∃q:Int,x=[p,q]/\lo<=q/\q<lo+c:=by
 unfold nU at h;obtain⟨q,hq,rfl⟩:=Ub.mp h;obtain⟨hq,_⟩:=Rj.mp hq;obtain⟨i,hi,rfl⟩:=Ub.mp hq;rw[Rk]at hi;exact⟨_,rfl,by omega,by omega⟩
theorem HD{k p:Int}{c:Nat}:(nU T k p lo c).Pairwise fun a b=>pV a<pV b:=by
 unfold nU;rw[U6];apply List.Pairwise.filter;rw[U6];exact Uw.imp fun {a b} h=>by show p*6+(lo+(a:Int))<p*6+(lo+(b:Int));omega
theorem xZ{k:Int}(h0:1<=m)(h1:m<=6):fZ 61e8 m (JZ m T k):=by
 refine⟨rfl,by omega,by omega,?_,fun x hx=>?_⟩
 ·unfold JZ;rw[List.pairwise_flatMap];refine⟨fun p _=>HD,?_⟩;refine VM (R:=(·<·)) ?_ Uw;intro a b ha hb hab x hx y hy;rw[Rk]at ha hb;obtain⟨q,rfl,q0,q1⟩:=sT hx;obtain⟨r,rfl,r0,r1⟩:=sT hy;show (a:Int)*6+q<(b:Int)*6+r;omega
 ·unfold JZ at hx;obtain⟨p,hp,hx⟩:=VT.mp hx;rw[Rk]at hp;obtain⟨q,rfl,q0,q1⟩:=sT hx;exact⟨_,_,rfl,by omega,by omega,by omega⟩
theorem Fd{k p:Int}{c:Nat}:((bu lo c).filter fun d=>match d with | .int q=>Pm k (T p q)|_=>false).map (fun d=>match d with | .int q=>aq [p,q]|_=>.non)=(nU T k p lo c).map aq:=by
 unfold bu nU;rw[VU,T1,VU,T1,T1];rfl
section
variable{a:Nat}{p:Int}{k:Int}
theorem EK(h:FT Y0 m a T Y)(p0:0<=p)(p1:p<m)(q0:0<=q)(q1:q<m):fv [some 75e7,some 5e1,some 31e2,some 11e7] Y=.ok (Pm k (T p q)) Y:=by
 obtain⟨b,e1,e2,_⟩:=h.get p0 p1;unfold fv;dsimp[hX,bR,aC,ao,ah,aS,aa,ae,e1,e2 q q0 q1,zT,qA,aO];cases e:T p q with
 |none=>rfl
 |some j=>
  dsimp[Q9 (show ¬ some j=none by simp),UJ,SA,cI,aa,ae,aO,p7];rfl
theorem EL(h:FT Y0 m a T Y)(hm:m<=6)(p0:0<=p)(p1:p<m) :
  compLoop (.fix 39e4) 8e5 18e8 fv iq 39e4 [none,some 5e1,some 31e2,some 11e7] 44e7=.ok 0e7 (Y++[.lst ((nU T k p (p+1) ((m:Int)-(p+1)).toNat).map aq)]):=by
 have:=cY (src:=.fix 39e4) (g:=ak 0) (t:=fv) (e:=iq) (Y1:=Y) (q:=fun d=>match d with | .int q=>Pm k (T p q)|_=>false)
  (h:=fun d=>match d with | .int q=>aq [p,q]|_=>.non) (fun ρ=>∃o,ρ=[o,some 5e1,some 31e2,some 11e7]) 9e9 (xs:=bu (p+1) ((m:Int)-(p+1)).toNat) (acc:=[]) (ρ:=[none,some 5e1,some 31e2,some 11e7]) ⟨none,rfl⟩
  (by unfold bu;rw[Sn,T5,T4];exact Rm 0e0 bc)
  (fun x hx acc ρ hJJ => by
   obtain⟨o,ho⟩:=hJJ;unfold bu at hx;obtain⟨i,hi,rfl⟩:=Ub.mp hx;rw[Rk]at hi;subst ho;refine⟨[some (.int (p+1+(i:Int))),some 5e1,some 31e2,some 11e7],⟨_,rfl⟩,rfl,EK (h.app) p0 p1 0e0 0e0,fun _=>?_⟩;unfold iq;dsimp[bV,ar,au,ao,ah,aa,ae,Ts,T5,Rc l2]
   rfl)
 rw[this,Fd];rfl
end
theorem pA{m:Nat}{T:Int->Int->Option Nat}{k:Int}(h:m<=6):∀n,((List.range n).flatMap fun p:Nat=>nU T k p ((p:Int)+1) (m-(p+1))).length<=6*n
 |0=>by simp
 |n+1=>by
  rw[VV,List.flatMap_append,Sl];have:=pA (T:=T) (k:=k) h n;have h2:=yf (T:=T) (k:=k) (p:=n) (lo:=(n:Int)+1) (c:=m-(n+1));dsimp[VW,List.flatMap_nil,R6];omega
theorem σ0{k:Int}(h:fZ 2e4 m ks):∃T,(∀p:Int,0<=p->p<m->xv 48e2 p 20e5 (T p)) /\
  eE [.tup [.int m,.tup 0e5],.int k] Y=.ok 61e8 Y:=by
 obtain⟨a,μf,T,ef,hF,hT⟩:=Ba (Y:=Y) h;obtain⟨_,h0,h1,hp,hk⟩:=h;have hm6:m<=6:=by omega
 refine⟨T,hT,?_⟩
 have run:=iK (src:=.fix (bu 0 m)) (g:=ak 4) (fb:=ip)
  (fun xs ρ Y1=>∃(n c t:Nat)(o4:Option D),xs=bu n c/\n+c=m/\ρ=[some 2e4,some 31e2,some 11e7,some 15e4,o4]/\FT Y m a T Y1/\Y1[t]?=some (.lst (((List.range n).flatMap fun p:Nat=>nU T k p ((p:Int)+1) (m-(p+1))).map aq)))
  (fun _ _ _=>trivial)
  (fun x r ρ Y1 hJJ => by
   obtain⟨n,c,t,o4,e1,e3,e4,e5,e6⟩:=hJJ;subst e4;cases c with
   |zero=>rw[jC]at e1;cases e1
   |succ c=>
    rw[iB]at e1;injection e1 with ex er
    subst ex er;have q3:=EL (k:=k) (p:=(n:Int)) e5 hm6 0e0 0e0;rw[show ((m:Int)-((n:Int)+1)).toNat=m-(n+1) by omega]at q3;have hlen:=pA (T:=T) (k:=k) hm6 n;have hrow:=yf (T:=T) (k:=k) (p:=n) (lo:=(n:Int)+1) (c:=m-(n+1));refine⟨trivial,_,Y1,[some 2e4,some 31e2,some 11e7,some (.obj (Y1.length+1)),some 20e6],(Y1++[O.lst ((nU T k n ((n:Int)+1) (m-(n+1))).map aq)])++[O.lst (((List.range (n+1)).flatMap fun p:Nat=>nU T k p ((p:Int)+1) (m-(p+1))).map aq)],rfl,?_,n+1,c,Y1.length+1,some 20e6,by push_cast;rfl,by omega,rfl,(e5.app).app,?_⟩
    ·show ip [some (.tup [.int m, .tup 0e5]), some 31e2, some 11e7, some 15e4, some 20e6] Y1 = _;unfold ip;dsimp[aR,aC,ao,ah,aa,ae,bK,cH,ar,au,aS,fe,cj];rw[lj 0e0 0e0 0e0 0e0];dsimp[aa,ae,bg];rw[show ((m:Int)-((n:Int)+1)).toNat=m-(n+1) by omega];rw[show dr [none,some 4,some 1,some 2] [some (D.tup [D.int ↑m,D.tup (List.map aq ks)]),some (D.int k),some (D.obj a),some (D.obj t),some (D.int n)]=[none,some 20e6,some 31e2,some 11e7] from rfl,q3];dsimp[aa,ae];unfold bG;dsimp only;rw[aI e6,av];dsimp only
     rw[Rc (by
      rw[Sn,Sn]
      exact Rm 15e7 bc)]
     dsimp[af,ae,bD];dsimp[Sl,Ts,T5,VP,VQ,VV,List.flatMap_append,Uj,VW,List.flatMap_nil,R6]
    ·have : Y1.length + 1 = (Y1 ++ [O.lst ((nU T k n ((n : Int) + 1) (m - (n + 1))).map aq)]).length := by simp
     rw[this];exact av)
  (xs:=bu 0 m) (ρ:=[some 2e4,some 31e2,some 11e7,some (.obj μf.length),none]) (Y:=μf++[.lst []])
  ⟨0,m,μf.length,none,rfl,by omega,rfl,hF.app,av⟩
 obtain⟨ρ',Y',⟨n,c,t,o4,e1,e3,e4,e5,e6⟩,run⟩:=run;subst e4;have hz:=ml e1.symm;subst hz;have hnm:n=m:=by omega
 subst hnm;have hg:fZ (.tup [.int n,.tup ((JZ n T k).map aq)]) n (JZ n T k):=xZ 0e0 hm6;obtain⟨g,hpre⟩:=e5.pre;unfold eE;rw[cR];dsimp[pO,aG,aR,az,ar,au,ah,aa,ae,ef,af,bD,aD,df];have l0:(0:Nat)<=sizeLine:=TJ _;dsimp[T5,Rc l0,af,aD,List.replicate,VP,VQ,aG,g8,cH,ar,au,aC,ah,aS,aa,ae,cj];rw[hG 0e0 0e0];dsimp[af,ae,bg,Sw];rw[run];dsimp[aD,bf,bV,ar,au,aC,az,ao,ah,aS,aa,ae,cj];rw[fF e6];dsimp[aa,ae,Ts,T5,Rc l2,af,aP];rw[hpre];exact dX (kH hg)
theorem kG{Y:aB}:∀fs:List Int,fV Y (fs.map D.int)=some 29e0
 |[]=>rfl
 |x::fs=>by dsimp[SR,fV,kG fs];rfl
theorem pq:∀fs:List Int,PyData.canLayAll0 29e0=true/\PyData.depthAll 29e0=0
 |[]=>by simp[PyData.canLayAll0,PyData.depthAll]
 |x::fs=>by
  have:=pq fs;dsimp[SR,PyData.canLayAll0,PyData.depthAll,PyData.canLay0,PyData.depth,this.1,this.2];exact⟨rfl,rfl⟩
theorem Bs{F:Nat}{fs:List Int}{a:Int}(h:Y[F]?=some 25e0):vA false 42e7 67e9 Y=.ok (.bl (decide (a∈fs))) Y:=by
 have e1:nR Y 42e7=some 42e7:=rfl
 have e2:nR Y 67e9=some (.list 29e0):=by
  unfold nR;dsimp only;rw[h];dsimp only;rw[kG];rfl
 have f1:dS 42e7=true:=rfl
 have f2:dS (.list 29e0)=true:=by
  have:=pq fs;dsimp[dS,PyData.canLay0,this.1,PyData.depth,this.2,VX];rfl
 unfold vA;rw[e1,e2];dsimp only[vS];rw[Rc ⟨f1,f2⟩];dsimp[Tr,Sy];congr 2;rw[VY];apply RY.mpr;rw[VZ,Vs];constructor
 ·rintro ⟨x, hx, e⟩
  have:x=a:=by simpa[PyData.eqv] using e
  subst this;exact hx
 ·intro hx;exact⟨a,hx,by simp[PyData.eqv]⟩
theorem j7{m:Int}(hk:∀k∈ks,oE m k){a b:Int}:mS ks a b↔([a,b]∈ks\/[b,a]∈ks):=by
 unfold mS vI;rw[VT];constructor
 ·rintro ⟨k, hk', hm⟩
  obtain⟨u,v,rfl,_⟩:=hk k hk';simp at hm;rcases hm with⟨rfl,rfl⟩|⟨rfl,rfl⟩
  ·exact .inl hk'
  ·exact .inr hk'
 ·rintro (h | h)
  ·exact⟨_,h,by simp⟩
  ·exact⟨_,h,by simp⟩
theorem qD{m:Int}{t e:List Int->Int}:∀{ks:List 1e8},(∀k∈ks,oE m k)->∀(P:Int->Bool),∃l:List Int,
  ((ks.map aq).filter (fun d=>match d with | .tup [.int a,.int b]=>P (t [a,b])|_=>false)).map (fun d=>match d with | .tup [.int a,.int b]=>.int (e [a,b])|_=>.non)=l.map D.int/\l.length<=ks.length/\∀x,x∈l↔∃k∈ks,P (t k)=true/\x=e k
 |[],_,P=>⟨[],rfl,RT _,by simp⟩
 |k::ks,h,P=>by
  obtain⟨l,e1,e2,e3⟩:=qD (t:=t) (e:=e) (ks:=ks) (fun x hx=>h x 50e5) P;obtain⟨a,b,rfl,_⟩:=h k Rq;rw[SR,VC];show ∃l:List Int,List.map _ (if P (t [a,b])=true then _ else _)=_/\_;by_cases c:P (t [a,b])=true
  ·rw [Rc c, SR, e1];refine⟨e [a,b]::l,rfl,by simp;omega,fun x=>?_⟩;dsimp[Ru,e3];constructor
   ·rintro (rfl | ⟨k, hk, z⟩)
    ·exact⟨[a,b],.inl rfl,c,rfl⟩
    ·exact⟨k,.inr hk,z⟩
   ·rintro ⟨k, rfl | hk, z1, z2⟩
    ·exact .inl z2
    ·exact .inr ⟨k,hk,z1,z2⟩
  ·rw [Re c, e1];refine⟨l,rfl,by simp;omega,fun x=>?_⟩;dsimp[Ru,e3];constructor
   ·rintro⟨k,hk,z⟩;exact⟨k,.inr hk,z⟩
   ·rintro ⟨k, rfl | hk, z1, z2⟩
    ·exact absurd z1 c
    ·exact⟨k,hk,z1,z2⟩
def GK:List Int->Int
 |[a,_]=>a
 |_=>0
def GG:List Int->Int
 |[_,b]=>b
 |_=>0
theorem EX{m:Int}{F:Nat}{fs:List Int}(hk:∀k∈ks,oE m k)(hl:ks.length<=15)(h:Y[F]?=some 25e0):
  ∃(t:Nat)(g:aB)(ns:List Int),gm [.tup 0e5,.obj F] Y=.ok 15e4 (Y++g)/\(Y++g)[t]?=some (.lst 4e7)/\ns.length<=30/\Y.length<=t/\∀q,q∈ns↔∃r∈fs,mS ks r q:=by
 obtain⟨l1,a1,a2,a3⟩:=qD (t:=GK) (e:=GG) hk fun x=>decide (x∈fs);obtain⟨l2',b1,b2,b3⟩:=qD (t:=GG) (e:=GK) hk fun x=>decide (x∈fs)
 have c1:=cY (src:=.fix 0e5) (g:=cU 2 6e5) (t:=jk) (e:=lQ) (Y1:=Y)
  (q:=fun d=>match d with | .tup [.int a,.int b]=>decide (GK [a,b]∈fs)|_=>false) (h:=fun d=>match d with | .tup [.int a,.int b]=>.int (GG [a,b])|_=>.non)
  (fun ρ=>∃o1 o2,ρ=[o1,o2,some 67e9]) 9e9 (xs:=ks.map aq) (acc:=[]) (ρ:=[none,none,some 67e9]) ⟨_,_,rfl⟩
  (by rw[Sn,T5];exact Rm 0e0 bc)
  (fun x hx a ρ hJJ => by
   obtain⟨o1,o2,ho⟩:=hJJ;obtain⟨k,hk',rfl⟩:=Ub.mp hx;obtain⟨u,v,rfl,_⟩:=hk k hk';subst ho;refine⟨[some 42e5,some 33e3,some 67e9],⟨_,_,rfl⟩,rfl,?_,fun _=>rfl⟩;unfold jk;dsimp[bR,aC,ao,ah,aa,ae];rw[Bs (aI h)]
   rfl)
 have c2:=fun M:aB=>fun hM:M[F]?=some 25e0=>cY (src:=.fix 0e5) (g:=cU 2 6e5) (t:=jj) (e:=lP) (Y1:=M)
  (q:=fun d=>match d with | .tup [.int a,.int b]=>decide (GG [a,b]∈fs)|_=>false) (h:=fun d=>match d with | .tup [.int a,.int b]=>.int (GK [a,b])|_=>.non)
  (fun ρ=>∃o1 o2,ρ=[o1,o2,some 67e9]) 9e9 (xs:=ks.map aq) (acc:=[]) (ρ:=[none,none,some 67e9]) ⟨_,_,rfl⟩
  (by rw[Sn,T5];exact Rm 0e0 bc)
  (fun x hx a ρ hJJ => by
   obtain⟨o1,o2,ho⟩:=hJJ;obtain⟨k,hk',rfl⟩:=Ub.mp hx;obtain⟨u,v,rfl,_⟩:=hk k hk';subst ho;refine⟨[some 42e5,some 33e3,some 67e9],⟨_,_,rfl⟩,rfl,?_,fun _=>rfl⟩;unfold jj;dsimp[bR,aC,ao,ah,aa,ae];rw[Bs (aI hM)]
   rfl)
 rw[Ti,a1]at c1;have c2':=c2 (Y++[O.lst 36e2]) (aI h);rw[Ti,b1]at c2';refine⟨((Y++[O.lst 36e2])++[O.lst 52e3]).length,([O.lst 36e2]++[O.lst 52e3])++[O.lst ((l1++l2').map D.int)],l1++l2',?_,?_,by rw[Sl];omega,by simp,fun q=>?_⟩
 ·unfold gm;rw[cR];dsimp[nP,bf,aC,bK,cb,ah,aa,ae,jr,bg,List.replicate];rw[show dr [none,none,some 1] (some 14e9::some (D.obj F)::List.replicate (2-2) none)=[none,none,some 67e9] from rfl,c1];dsimp[aa,ae];rw[c2'];dsimp[aa,ae]
  have ad:bG 0e7 (.obj (Y++[O.lst 36e2]).length) ((Y++[O.lst 36e2])++[O.lst 52e3])=.ok (.obj ((Y++[O.lst 36e2])++[O.lst 52e3]).length) (((Y++[O.lst 36e2])++[O.lst 52e3])++[O.lst ((l1++l2').map D.int)]):=by
   unfold bG;dsimp only;rw[av,aI av];dsimp only;rw[Rc,Uj];rw[Sn,Sn];exact Rm 15e7 bc
  rw[ad,af,aP,AW 0e6];dsimp[Tc]
 ·rw[<- Tc,<- Tc];exact av
 ·rw [Rw, a3, b3];constructor
  ·rintro (⟨k, hk', z1, z2⟩ | ⟨k, hk', z1, z2⟩)
   ·obtain⟨u,v,rfl,_⟩:=hk k hk';subst z2;exact⟨u,V0 z1,(j7 hk).mpr (.inl hk')⟩
   ·obtain⟨u,v,rfl,_⟩:=hk k hk';subst z2;exact⟨v,V0 z1,(j7 hk).mpr (.inr hk')⟩
  ·rintro ⟨r, hr, ha⟩
   rcases (j7 hk).mp ha with z|z
   ·exact .inl ⟨_,z,Tn hr,rfl⟩
   ·exact .inr ⟨_,z,Tn hr,rfl⟩
theorem mw{o o':O}(h:Y[j]?=some o')(ne:i≠j):(Y.set i o)[j]?=some o':=by rw[RB ne];exact h
def fk(k:List Int):PyData:=.tuple (k.map PyData.int)
theorem qu{Y:aB}{m:Int}:∀{ks:List 1e8},(∀k∈ks,oE m k)->fV Y 0e5=some 45e6
 |[],_=>rfl
 |k::ks,h=>by
  obtain⟨a,b,rfl,_⟩:=h k Rq;have ih:=qu (Y:=Y) fun x hx=>h x 50e5;dsimp[SR,fV,ih];rfl
theorem qv{m:Int}:∀{ks:List 1e8},(∀k∈ks,oE m k)->PyData.canLayAll0 45e6=true/\PyData.depthAll 45e6<=1
 |[],_=>by simp[PyData.canLayAll0,PyData.depthAll]
 |k::ks,h=>by
  obtain⟨a,b,rfl,_⟩:=h k Rq;have ih:=qv fun x hx=>h x 50e5;dsimp[SR,PyData.canLayAll0,PyData.depthAll,ih.1,fk,SQ,PyData.canLay0,PyData.depth];refine⟨rfl,?_⟩;have:=ih.2;omega
end Lw
namespace Lw
open PySem L2 RS
def Pn(Y0:aB)(i:Nat)(Y:aB):Prop:=∃a b c g,Y=Y0.set i 7e4++g
theorem Pn.app{g:aB}(h:Pn Y0 i Y):Pn Y0 i (Y++g):=by
 obtain⟨a,b,c,g',rfl⟩:=h;exact⟨a,b,c,g'++g,by rw[Tc]⟩
theorem Pn.get(h:Pn Y0 i Y)(hi:i<Y0.length):∃a b c,Y[i]?=some 7e4:=by
 obtain⟨a,b,c,g',rfl⟩:=h;exact⟨a,b,c,aI (eZ hi)⟩
theorem Pn.set{a b c:Int}(h:Pn Y0 i Y)(hi:i<Y0.length):Pn Y0 i (Y.set i 7e4):=by
 obtain⟨a',b',c',g',rfl⟩:=h;exact⟨a,b,c,g',by rw[mU 6e4,List.set_set]⟩
theorem Pn.len(h:Pn Y0 i Y):Y0.length<=Y.length:=by
 obtain⟨a',b',c',g',rfl⟩:=h;simp
theorem Pn.self{a b c:Int}(h:Y0[i]?=some 7e4):Pn Y0 i Y0:=by
 refine⟨a,b,c,[],?_⟩;rw[R6];apply U3;intro j;by_cases e:i=j
 ·subst e;rw[eZ (Ry.mp h).1,h]
 ·rw[RB e]
theorem Pn.draw{m:Int}(h:Pn Y0 i Y)(hi:i<Y0.length)(h0:0<m)(h1:m<1000):
  ∃r a b c:Int,0<=r/\r<m/\aM [.obj i,.int m] Y=.ok (.int r) (Y.set i 7e4)/\Pn Y0 i (Y.set i 7e4):=by
 obtain⟨a,b,c,hp⟩:=h.get hi;obtain⟨r,a',b',c',r0,r1,e⟩:=Bb hp h0 h1;exact⟨r,a',b',c',r0,r1,e,h.set hi⟩
theorem Pn.gc(h:Pn Y0 i Y)(hd:d.low Y0.length):∃a b c,uf Y0 (.ok d Y)=.ok d (Y0.set i 7e4):=by
 obtain⟨a,b,c,g',rfl⟩:=h;exact⟨a,b,c,zQ hd sg⟩
theorem pC{e:ME}{rest:Ro}{f:Int->Int×Int}(hn:n<1000)(he:∀v a,e (some 33e3::rest) 4e3=.ok (bS (f v)) 4e3):
  compLoop (.fix (bu lo n)) 6e9 18e8 bj e (bu lo n) (none::rest) 32e0=.ok 47e2 (Y1++[.lst (((List.range n).map fun k:Nat=>f (lo+(k:Int))).map bS)]):=by
 have:=cY (src:=.fix (bu lo n)) (g:=ak 0) (t:=bj) (e:=e) (Y1:=Y1) (q:=fun _=>true)
  (h:=fun d=>match d with | .int a=>bS (f a)|_=>.non) (fun ρ=>∃o,ρ=o::rest) 9e9 (xs:=bu lo n) (acc:=[]) (ρ:=none::rest) ⟨none,rfl⟩
  (by unfold bu;rw[Sn,T5,T4];exact Rm 0e0 bc)
  (fun x hx a ρ hJJ => by
   obtain⟨o,ho⟩:=hJJ;unfold bu at hx;obtain⟨k,hk,rfl⟩:=Ub.mp hx
   exact⟨_,⟨_,rfl⟩,by subst ho;rfl,rfl,fun _=>he _ _⟩)
 rw[this,VS.mpr 19e5];unfold bu;dsimp[Ti,T1];rfl
def NB(m:Int)(ps:List 13e5):Prop:=ps.length<=40/\∀p∈ps,0<=p.1/\p.1<m/\0<=p.2/\p.2<m/\p.1≠p.2
theorem tP{t:Nat}{m:Int}{k:Int}(hi:i<Y0.length)(ht:Y0.length<=t)(h:Pn Y0 i Y1)(hl:Y1[t]?=some (.lst 9e1))(hps:NB m ps)(k0:0<k)(k1:k<1000):
  ∃qs Y2,NB m qs/\Pn Y0 i Y2/\Y2.length=Y1.length/\compLoop (.own t 9e1) 6e9 18e8 43e4 2e3 9e1 [none,some 10e4] 32e0=.ok 47e2 (Y2++[.lst 4e1]):=by
 have run:=i4 (src:=.own t 9e1) (g:=ak 0) (t:=43e4) (e:=aj 0) (n:=6e9)
  (fun xs ys ρ Y2 s=>s=[]/\Y2.length=Y1.length/\Pn Y0 i Y2/\Y2[t]?=some (.lst 9e1)/\(∃o,ρ=[o,some 10e4])/\∃rs qs:List 13e5,xs=rs.map bS/\ys=qs.map bS/\qs.length+rs.length<=40/\(∀p∈rs,0<=p.1/\p.1<m/\0<=p.2/\p.2<m/\p.1≠p.2)/\(∀p∈qs,0<=p.1/\p.1<m/\0<=p.2/\p.2<m/\p.1≠p.2))
  (fun ys ρ Y2 s ⟨_,e1,_,e2,_⟩=>⟨e1,aI e2⟩)
  (fun x r ys ρ Y2 s hJJ => by
   obtain⟨es,e1,e2,e3,⟨o,e4⟩,rs,qs,e5,e6,e7,e8,e9⟩:=hJJ;subst es e4 e6;cases rs with
   |nil=>cases e5
   |cons p rs=>
    injection e5 with ex er
    subst ex er;obtain⟨v,a,b,c,v0,v1,ed,hp⟩:=(e2.app (g:=[.lst 4e1])).draw hi k0 k1;have i2:i<Y2.length:=Rg hi e2.len;rw[mU i2]at ed;refine⟨e1,aI e3,[some (bS p),some 10e4],Y2,[],v == 0,Y2.set i 7e4,[],rfl,?_,fun hc=>?_,fun hc=>?_⟩
    ·dsimp[bR,aC,az,ar,au,ao,ah,aS,aa,ae,ed,cG,Tr,Sy,aO]
    ·refine ⟨bS p, Y2.set i 7e4, [], by rw [ah], ?_, by simpa using e1, rfl, by simpa using e1, e2.set hi, mw e3 0e0, ⟨_, rfl⟩, rs, qs ++ [p], rfl, by simp, by simp at e7 ⊢; omega, fun q hq => e8 q (Rt _ hq), fun q hq => ?_⟩
     ·rw[Sn];dsimp[Ts]at e7;exact Rg 42e8 bc
     ·rcases Rw.mp hq with z | z
      ·exact e9 q z
      ·simp at z;subst z;exact e8 _ Rq
    ·exact⟨rfl,by simpa using e1,e2.set hi,mw e3 0e0,⟨_,rfl⟩,rs,qs,rfl,rfl,by simp at e7⊢;omega,fun q hq=>e8 q (Rt _ hq),e9⟩)
  (xs:=ps.map bS) (ys:=[]) (ρ:=[none,some 10e4]) (Y1:=Y1) (s:=[])
  ⟨rfl,rfl,h,hl,⟨_,rfl⟩,ps,[],rfl,rfl,by have:=hps.1;simpa using this,hps.2,by simp⟩
 obtain⟨ys',ρ',Y2,s',⟨es,e1,e2,e3,⟨o,e4⟩,rs,qs,e5,e6,e7,e8,e9⟩,run⟩:=run;subst es e6;exact⟨qs,Y2,⟨by omega,e9⟩,e2,e1,run⟩
theorem AA{m:Int}(hi:i<Y0.length)(h:Pn Y0 i Y1)(m0:1<=m)(m1:m<=6):
  ∃qs Y2,NB m qs/\Pn Y0 i Y2/\Y2.length=Y1.length/\compLoop (.fix 75e8) 6e9 18e8 bj dc 75e8 [none,some 10e4] 32e0=.ok 47e2 (Y2++[.lst 4e1]):=by
 have run:=i4 (src:=.fix 75e8) (g:=ak 0) (t:=bj) (e:=dc) (n:=6e9)
  (fun xs ys ρ Y2 s=>s=[]/\Y2.length=Y1.length/\Pn Y0 i Y2/\(∃o,ρ=[o,some 10e4])/\∃(lo:Int)(n:Nat)(qs:List 13e5),xs=bu lo n/\1<=lo/\lo+n=m/\ys=qs.map bS/\qs.length+n<=40/\(∀p∈qs,0<=p.1/\p.1<m/\0<=p.2/\p.2<m/\p.1≠p.2))
  (fun ys ρ Y2 s ⟨_,e1,_⟩=>⟨e1,trivial⟩)
  (fun x r ys ρ Y2 s hJJ => by
   obtain⟨es,e1,e2,⟨o,e4⟩,lo,n,qs,e5,e6,e7,e8,e9,e10⟩:=hJJ;subst es e4 e8;cases n with
   |zero=>rw[jC]at e5;cases e5
   |succ n=>
    rw[iB]at e5;injection e5 with ex er
    subst ex er;obtain⟨v,a,b,c,v0,v1,ed,hp⟩:=(e2.app (g:=[.lst 4e1])).draw (m:=lo) hi 0e0 0e0;have i2:i<Y2.length:=Rg hi e2.len;rw[mU i2]at ed;refine⟨e1,trivial,[some (.int lo),some 10e4],Y2,[],true,Y2,[],rfl,rfl,fun hc=>?_,fun hc=>nomatch hc⟩;refine⟨bS (v,lo),Y2.set i 7e4,[],?_,?_,by simpa using e1,rfl,by simpa using e1,e2.set hi,⟨_,rfl⟩,lo+1,n,qs++[(v,lo)],rfl,by omega,by omega,by simp,by simp;omega,fun q hq=>?_⟩
    ·unfold dc;dsimp[bV,az,ar,au,ao,ah,aS,aa,ae,ed,Ts,T5,Rc l2];rfl
    ·rw[Sn];exact Rg 42e8 bc
    ·rcases Rw.mp hq with z | z
     ·exact e10 q z
     ·simp at z;subst z;exact⟨v0,by omega,by omega,by omega,by dsimp only;omega⟩)
  (xs:=bu 1 (m-1).toNat) (ys:=[]) (ρ:=[none,some 10e4]) (Y1:=Y1) (s:=[])
  ⟨rfl,rfl,h,⟨_,rfl⟩,1,_,[],rfl,by omega,by omega,rfl,by simp;omega,by simp⟩
 obtain⟨ys',ρ',Y2,s',⟨es,e1,e2,⟨o,e4⟩,lo,n,qs,e5,e6,e7,e8,e9,e10⟩,run⟩:=run;subst es e8;exact⟨qs,Y2,⟨by omega,e10⟩,e2,e1,run⟩
def iH:MS:=2e0
theorem Hy{t:Nat}{m w:Int}(hi:i<Y0.length)(ht:Y0.length<=t)(h:Pn Y0 i Y1)(hl:Y1[t]?=some (.lst 9e1))(hps:NB m ps)(m0:1<=m)(m1:m<=6):
  ∃(o:Nat)(qs:List 13e5)(Y2:aB),NB m qs/\Pn Y0 i Y2/\Y2[o]?=some (.lst 4e1)/\iH [some 10e4,some 52e4,some 6e2,some 15e4,o4,none] Y1=.next [some 10e4,some 52e4,some 6e2,some 15e4,o4,some (.obj o)] Y2:=by
 unfold iH
 have r1:∀n a,eH (some 20e6::[]) 4e3=.ok (bS (n,n+1)) 4e3:=fun n a=>by
  unfold eH;dsimp[bV,ar,au,aC,ah,aS,aa,ae,fe,Ts,T5,Rc l2];rfl
 have r2:∀n a,gN (some 20e6::[]) 4e3=.ok (bS (n,n+1)) 4e3:=r1
 have r3:∀n a,eG (some 20e6::[]) 4e3=.ok (bS (0,n)) 4e3:=fun n a=>by
  unfold eG;dsimp[bV,ar,au,aC,ah,aS,aa,ae,fe,Ts,T5,Rc l2];rfl
 have sb:dN 6e2 47e6 Y1=.ok (.int (m-1)) Y1:=rfl;have rn:(List.range (m-1).toNat).length<=5:=by rw[T4];omega
 have pth:∀p∈(List.range (m-1).toNat).map (fun k:Nat=>(57e6,(0:Int)+(k:Int)+1)),0<=p.1/\p.1<m/\0<=p.2/\p.2<m/\p.1≠p.2:=fun p hp=>by
  obtain⟨k,hk,rfl⟩:=Ub.mp hp;rw[Rk]at hk;dsimp only;omega
 by_cases w0:w=0
 ·subst w0;obtain⟨qs,Y2,q1,q2,q3,q4⟩:=tP (k:=2) hi ht h hl hps 0e4 0e4;refine⟨6e9,qs,Y2++[.lst 4e1],q1,q2.app,by rw[<- q3];exact av,?_⟩;dsimp[bw,bR,aC,ao,ah,aS,aa,ae,cG,Tq,aO,af,Tr,Sy,SA,aR,bK,cb];rw[dO hl];dsimp[aa,ae,cD];rw[show dr [none,some 0] [some (D.obj i),some 67e6,some 6e2,some 15e4,o4,none]=[none,some 10e4] from rfl];unfold gL gP;rw[q4];rfl
 have w0':(w == 0)=false:=by simpa using w0
 by_cases w1:w=1
 ·subst w1;obtain⟨qs,Y2,q1,q2,q3,q4⟩:=tP (k:=3) hi ht h hl hps 0e4 0e4;refine⟨6e9,qs,Y2++[.lst 4e1],q1,q2.app,by rw[<- q3];exact av,?_⟩;dsimp[bw,bR,aC,ao,ah,aS,aa,ae,cG,w0',Tq,aO,af,Tr,Sy,SA,aR,bK,cb];rw[dO hl];dsimp[aa,ae,cD];rw[show dr [none,some 0] [some (D.obj i),some 47e6,some 6e2,some 15e4,o4,none]=[none,some 10e4] from rfl];unfold gK gO;rw[q4];rfl
 have w1':(w == 1)=false:=by simpa using w1
 by_cases w2:w=2
 ·subst w2;let ps1:List 13e5:=(List.range (m-1).toNat).map (fun k:Nat=>(57e6,(0:Int)+(k:Int)+1))
  let ps2:List 13e5:=(List.replicate (if cu .Gt m 2 then (1:Int) else 0).toNat [((0:Int),m-1)]).flatten
  have hb:ps2=if cu .Gt m 2 then [((0:Int),m-1)] else []:=by
   dsimp[ps2];cases cu .Gt m 2 <;> rfl
  have hb2:ps2.length<=1/\∀p∈ps2,p=(0,m-1)/\2<m:=by
   rw[hb];by_cases z:cu .Gt m 2=true
   ·rw [Rc z];have:2<m:=by simpa[cu] using z
    simp[this]
   ·rw[Re z];simp
  refine⟨_,ps1++ps2,((Y1++[O.lst 68e0]++[O.lst [bS (0,m-1)]])++[O.lst 48e3])++[O.lst ((ps1++ps2).map bS)],⟨?_,fun p hp=>?_⟩,((h.app).app.app).app,av,?_⟩
  ·rw [Sl];have:ps1.length<=5:=by dsimp[ps1,Sn];exact rn
   omega
  ·rcases Rw.mp hp with z | z
   ·exact pth p z
   ·obtain⟨rfl,z2⟩:=hb2.2 p z;dsimp only;omega
  ·dsimp[bw, bR, aC, ao, ah, aS, aa, ae, cG, w0', w1', Tq, aO, af, Tr, Sy, SA, aR, bK, cH, ar, au, sb];rw[hG 0e0 0e0];dsimp[aa,ae,bg];rw[show dr [none] _=[none] from rfl,pC (f:=fun v=>(v,v+1)) 0e0 r1];have l1:(1:Nat)<=sizeLine:=by decide
   have sb':∀Y,dN 6e2 47e6 Y=.ok (.int (m-1)) Y:=fun _=>rfl;have ib:∀k:Bool,∀Y,qZ [.bl k] Y=.ok 21e8 Y:=fun _ _=>rfl;dsimp[aa,ae,df,bV,ar,au,aC,ao,ah,aS,sb',Ts,T5,Rc l2,Rc l1,az,cI,ib]
   have mu:∀M:aB,nr 10e0 (.int (if cu .Gt m 2=true then 1 else 0)) (M++[O.lst [bS (0,m-1)]])=.ok (.obj (M++[O.lst [bS (0,m-1)]]).length) ((M++[O.lst [bS (0,m-1)]])++[O.lst 48e3]):=fun M=>by
    unfold nr;dsimp only;rw[av];dsimp only
    have:(List.replicate (if cu .Gt m 2=true then (1:Int) else 0).toNat [bS (0,m-1)]).flatten=ps2.map bS:=by
     dsimp[ps2];cases cu .Gt m 2 <;> rfl
    rw[this,Rc];have l1':(1:Nat)<=sizeLine:=by decide
    cases cu .Gt m 2
    ·exact⟨by decide,by decide,TJ _⟩
    ·exact⟨by decide,by decide,l1'⟩
   rw[show (D.tup [D.int 0,D.int (m-1)])=bS (0,m-1) from rfl,mu];dsimp[aa,ae]
   have ad:bG 47e2 (.obj (Y1++[O.lst 68e0]++[O.lst [bS (0,m-1)]]).length) ((Y1++[O.lst 68e0]++[O.lst [bS (0,m-1)]])++[O.lst 48e3])=.ok (.obj ((Y1++[O.lst 68e0]++[O.lst [bS (0,m-1)]])++[O.lst 48e3]).length) (((Y1++[O.lst 68e0]++[O.lst [bS (0,m-1)]])++[O.lst 48e3])++[O.lst ((ps1++ps2).map bS)]):=by
    unfold bG;dsimp only;rw[av,aI (aI av)];dsimp only;rw[Rc,Uj];have e1:((List.range (m-1).toNat).map (fun k:Nat=>(57e6,(0:Int)+(k:Int)+1))).length<=5:=by rw[Sn];exact rn
    have e2:((ps1.map bS).length:Nat)<=5:=by rw[Sn];exact e1
    have e3:((ps2.map bS).length:Nat)<=1:=by rw[Sn];exact hb2.1
    exact Rm 15e7 bc
   rw[ad];rfl
 have w2':(w == 2)=false:=by simpa using w2
 by_cases w3:w=3
 ·subst w3;refine⟨6e9,(List.range (m-1).toNat).map (fun k:Nat=>(57e6,(0:Int)+(k:Int)+1)),Y1++[.lst _],⟨by rw[Sn];omega,pth⟩,h.app,av,?_⟩;dsimp[bw,bR,aC,ao,ah,aS,aa,ae,cG,w0',w1',w2',Tq,aO,af,Tr,Sy,SA,aR,bK,cH,ar,au,sb];rw[hG 0e0 0e0];dsimp[aa,ae,bg];rw[show dr [none] _=[none] from rfl,pC (f:=fun v=>(v,v+1)) 0e0 r2];rfl
 have w3':(w == 3)=false:=by simpa using w3
 by_cases w4:w=4
 ·subst w4;refine⟨6e9,(List.range (m-1).toNat).map (fun k:Nat=>((0:Int),(1:Int)+(k:Int))),Y1++[.lst _],⟨by rw[Sn];omega,fun p hp=>?_⟩,h.app,av,?_⟩
  ·obtain⟨k,hk,rfl⟩:=Ub.mp hp;rw[Rk]at hk;dsimp only;omega
  dsimp[bw,bR,aC,ao,ah,aS,aa,ae,cG,w0',w1',w2',w3',Tq,aO,af,Tr,Sy,SA,aR,bK,cH,ar,au,sb];rw[lj 0e0 0e0 0e0 0e0];dsimp[aa,ae,bg];rw[show dr [none] _=[none] from rfl,pC (f:=fun v=>(0,v)) 0e0 r3];rfl
 have w4':(w == 4)=false:=by simpa using w4
 obtain⟨qs,Y2,q1,q2,q3,q4⟩:=AA hi h m0 m1;refine⟨6e9,qs,Y2++[.lst 4e1],q1,q2.app,by rw[<- q3];exact av,?_⟩;dsimp[bw,bR,aC,ao,ah,aS,aa,ae,cG,w0',w1',w2',w3',w4',aO,af,Tr,Sy,aR,bK,cH,ar,au];rw[lj 0e0 0e0 0e0 0e0];dsimp[aa,ae,bg];rw[show dr [none,some 0] [some (D.obj i),some 52e4,some 6e2,some 15e4,o4,none]=[none,some 10e4] from rfl,q4];rfl
theorem kN{m:Int}(h:fZ d m ks):d.low n:=kH h
theorem σ1{a b c:Int}(hp:Y[i]?=some 7e4):∃d m ks a' b' c',fZ d m ks/\d7 [.obj i] Y=.ok d 44e6:=by
 have hi:i<Y.length:=(Ry.mp hp).1;have P0:Pn Y i Y:=Pn.self hp;obtain⟨w,a1,b1,c1,w0,w1,ew,P1⟩:=P0.draw (m:=7) hi 0e4 0e4;generalize hM1:Y.set i 34e2=M1 at ew P1;obtain⟨m',a2,b2,c2,m0,m1,em,P2⟩:=P1.draw (m:=6) hi 0e4 0e4;generalize hM2:M1.set i 51e2=M2 at em P2
 have run:=iK (src:=.fix (bu 0 (1+m').toNat)) (g:=ak 4) (fb:=eF)
  (fun xs ρ Y1 => ∃ (lo : Int) (n : Nat) (t : Nat) (ps : List (Int × Int)) (o4 : Option D), xs = bu lo n /\ 0 <= lo /\ lo + n = 1 + m' /\ ρ = [some 10e4, some 52e4, some (.int (1 + m')), some 15e4, o4, none] /\ Pn Y i Y1 /\ Y.length <= t /\ Y1[t]? = some (.lst 9e1) /\
   (ps.length:Int)<=6*lo/\(∀p∈ps,0<=p.1/\p.1<p.2/\p.2<lo))
  (fun _ _ _=>trivial)
  (fun x r ρ Y1 hJJ => by
   obtain⟨lo,n,t,ps,o4,e1,e2,e3,e4,e5,e6,e7,e8,e9⟩:=hJJ;subst e4;cases n with
   |zero=>rw[jC]at e1;cases e1
   |succ n=>
    rw[iB]at e1;injection e1 with ex er
    subst ex er;let qs:List 13e5:=(List.range lo.toNat).map fun k:Nat=>((0:Int)+(k:Int),lo)
    have hq:(qs.length:Int)=lo:=by dsimp[qs,Sn,T4];omega
    refine⟨trivial,_,Y1,[some 10e4,some 52e4,some (.int (1+m')),some (.obj (Y1.length+1)),some (.int lo),none],(Y1++[O.lst 4e1])++[O.lst ((ps++qs).map bS)],rfl,?_,lo+1,n,Y1.length+1,ps++qs,some (.int lo),rfl,by omega,by omega,rfl,e5.app.app,?_,?_,?_,fun p hp=>?_⟩
    ·show eF [some 10e4, some 52e4, some (.int (1 + m')), some 15e4, some (.int lo), none] Y1 = _;unfold eF;dsimp[aR,aC,ao,ah,aa,ae,bK,cH,ar,au];rw[hG 0e0 0e0];dsimp[aa,ae,bg]
     rw[show dr [none,some 4] [some (D.obj i),some 52e4,some (.int (1+m')),some 15e4,some (.int lo),none]=[none,some (.int lo)] from rfl,
      pC (f:=fun v=>(v,lo)) 0e0 (fun v a=>by
       unfold jV;dsimp[bV,ar,au,ao,ah,aa,ae,Ts,T5,Rc l2]
       rfl)]
     dsimp[aa,ae];unfold bG;dsimp only;rw[aI e7,av];dsimp only
     rw[Rc (by
      rw[Sn,Sn];have:qs.length=((List.range lo.toNat).map fun k:Nat=>((0:Int)+(k:Int),lo)).length:=rfl;rw[<- this]
      exact Rm 15e7 bc)]
     dsimp[af,ae,bD];dsimp[Sl,Ts,T5,VP,VQ,Uj];rfl
    ·have:=e5.len;omega
    ·have : Y1.length + 1 = (Y1 ++ [O.lst 4e1]).length := by simp
     rw[this];exact av
    ·rw[Sl];push_cast;omega
    ·rcases Rw.mp hp with z | z
     ·have:=e9 p z;omega
     ·dsimp[qs] at z;obtain⟨k,hk,rfl⟩:=Ub.mp z;rw[Rk]at hk;dsimp only
      omega)
  (xs:=bu 0 (1+m').toNat) (ρ:=[some 10e4,some 52e4,some (.int (1+m')),some 62e7,none,none]) (Y:=M2++[.lst []])
  ⟨0,(1+m').toNat,34e3,[],none,rfl,by omega,by omega,rfl,P2.app,P2.len,av,by simp,by simp⟩
 obtain⟨ρ',M3,⟨lo,n,t,ps,o4,e1,e2,e3,e4,e5,e6,e7,e8,e9⟩,run⟩:=run;subst e4;have hn:=ml e1.symm;subst hn;obtain⟨o,qs,M4,q1,q2,q3,q4⟩:=Hy (m:=1+m') (w:=w) (o4:=o4) hi e6 e5 e7 ⟨by omega,fun p hp=>by have:=e9 p hp;omega⟩ 0e0 0e0;obtain⟨a5,b5,c5,hp4⟩:=q2.get hi;obtain⟨ns,a6,b6,c6,n1,n2,n3,n4⟩:=x8 hp4 (m:=1+m') 0e0 0e0;obtain⟨d,ks,g1,g2⟩:=EY (Y:=M4.set i (bE a6 b6 c6)) (m:=1+m') 0e0 0e0 q1.2 (by have:=q1.1;omega) n1 n2 n3;obtain⟨a7,b7,c7,hg⟩:=(q2.set (a:=a6) (b:=b6) (c:=c6) hi).gc (kN g1);refine⟨d,1+m',ks,a7,b7,c7,g1,?_⟩;unfold d7;rw[cz];dsimp[kW,aG,aR,az,ar,au,ah,aS,aa,ae,ew,af,bD,aD,List.replicate,VP,VQ,aC,hM1,em,hM2,fe,df,T5,Rc (TJ sizeLine),g8,cH,ao];rw[hG 0e0 0e0];dsimp[af,ae,bg];rw[run];dsimp[aD,aG];have hW:=q4;unfold iH at hW;rw[hW];dsimp[aD,bf,az,ar,au,ao,ah,bV,aa,ae];rw[fF q3];dsimp[aa,ae,Ts,T5,Rc l2,n4,g2,af,aP];exact hg
theorem EU{m k:Int}(h:fZ d m ks):∃d' ks',fZ d' m ks'/\eE [d,.int k] Y=.ok d' Y:=by
 have hd:=h.1;have hm:1<=m/\m<=6:=⟨h.2.1,h.2.2.1⟩;subst hd;obtain⟨n,rfl⟩:∃n:Nat,m=(n:Int):=⟨m.toNat,by omega⟩;obtain⟨T,_,e⟩:=σ0 (Y:=Y) (k:=k) h;exact⟨_,_,xZ 0e0 0e0,e⟩
theorem Ct{m:Int}(h:∀k∈ks,oE m k):dS (.tuple 45e6)=true:=by
 have:=qv h;dsimp[dS,PyData.canLay0,this.1,PyData.depth,VX];exact Tn 0e0
theorem Bn{m:Int}(h:∀k∈ks,oE m k):gq true 6e0 (.tup []) Y=.ok (.bl (!ks.isEmpty)) Y:=by
 have e1:nR Y 6e0=some (.tuple 45e6):=by
  dsimp[nR,qu h,Option.map_some]
 have e2:nR Y (.tup [])=some (.tuple []):=rfl;unfold gq;rw[e1,e2];dsimp only;rw[Rc ⟨Ct h,by decide⟩];congr 2;cases ks with
 |nil=>rfl
 |cons k ks=>simp[PyData.eqv,PyData.eqvAll]
theorem yE{m:Int}{ks':List 1e8}(h:fZ d m ks)(hs:ks'.Sublist ks):fZ (.tup [.int m,.tup (ks'.map aq)]) m ks':=by
 obtain⟨_,h0,h1,hp,hk⟩:=h;exact⟨rfl,h0,h1,hp.sublist hs,fun k hk'=>hk k (hs.subset hk')⟩
theorem zV{xs:List β}{r:Nat}(h:r<=xs.length):jF xs none 23e4=xs.take r:=by
 unfold jF;rw[HT.sIx_none,HT.sIx_nat];simp[V1 h]
theorem Gf{xs:List β}{r:Nat}(h:r<=xs.length):jF xs 23e4 none=xs.drop r:=by
 unfold jF;rw[HT.sIx_none,HT.sIx_nat,V1 h];exact Ua (by rw[SE];exact RT _)
theorem OE{a b:Int}:cX [.tup [.int a,.int b]] Y=.ok 0e7 (Y++[.lst [.int (min a b),.int (max a b)]]):=by
 have e:[min a b,max a b]=qU [a,b]:=by
  refine yb ?_ 10e9;by_cases h:a<=b
  ·rw[V2 h,V3 h]
  ·rw[V4 0e0,V5 0e0];exact List.Perm.swap a b []
 have e2:kC [.int a,.int b]=some [a,b]:=rfl;unfold cX;dsimp only;rw[e2];dsimp only;rw[Rc (show [a,b].length<64 from (by decide:2<64)),<- e];rfl
theorem ES{a b c:Int}(hp:Y[i]?=some 7e4):∃d m ks a' b' c',fZ d m ks/\gn [.obj i] Y=.ok d 44e6:=by
 have hi:i<Y.length:=(Ry.mp hp).1;obtain⟨d0,m,ks0,a0,b0,c0,g0,e0⟩:=σ1 hp;have P0:Pn Y i (Y.set i (bE a0 b0 c0)):=⟨a0,b0,c0,[],by simp⟩;generalize hM0:Y.set i (bE a0 b0 c0)=M0 at e0 P0;obtain⟨w,a1,b1,c1,w0,w1,ew,P1⟩:=P0.draw (m:=6) hi 0e4 0e4;generalize hM1:M0.set i 34e2=M1 at ew P1;have cmpw:cu .Lt w 3=decide (w<3):=rfl
 have st:∃d ks,fZ d m ks/\lT (gr (ay 38e8 28e3 41e0)) 58e3 (dU) [some 10e4,some d0,some 52e4,none,none,none] M1=.next [some 10e4,some d,some 52e4,none,none,none] M1:=by
  obtain⟨d',ks',g',e'⟩:=EU (Y:=M1) (k:=2) g0;by_cases hw:w<3
  ·refine⟨d',ks',g',?_⟩;dsimp[bw,bR,aC,ao,ah,aS,aa,ae,cI,cmpw,Tn hw,aO,af,SA,aR,az,ar,au,e',bD,VP,VQ]
  ·refine⟨d0,ks0,g0,?_⟩;dsimp[bw,bR,aC,ao,ah,aS,aa,ae,cI,cmpw,Q9 hw,aO,af,Tr,Sy,bU]
 obtain⟨d,ks,g,es⟩:=st;have hlow:=fun n=>kN (n:=n) g;have hg:=g;obtain⟨rfl,h0,h1,hpw,hk⟩:=hg;unfold gn;rw[cz];have sub1:∀x y:Int,∀Y,dN 26e1 (.int y) Y=.ok (.int (x-y)) Y:=fun _ _ _=>rfl;by_cases z0:w=0/\ks≠[]
 ·obtain ⟨rfl, hne⟩ := z0;have hlen:=ia g;have hpos:0<ks.length:=Vy.mpr hne;have hem:ks.isEmpty=false:=by simpa using hne
  obtain⟨r,a2,b2,c2,r0,r1,er,P2⟩:=P1.draw (m:=(ks.length:Int)) hi 0e0 0e0;generalize hM2:M1.set i 51e2=M2 at er P2;obtain⟨rn,rfl⟩:∃rn:Nat,r=(rn:Int):=42e9
  have gs:fZ (.tup [.int m,.tup 65e5]) m (ks.take rn++ks.drop (rn+1)):=by
   refine yE g ?_;have:=List.Sublist.append (List.Sublist.refl (ks.take rn)) (List.drop_sublist 1 (ks.drop rn))
   rwa [Uh,List.drop_drop]at this
  obtain⟨a7,b7,c7,hgc⟩:=P2.gc (kN gs);refine⟨_,m,_,a7,b7,c7,gs,?_⟩;dsimp[iU,aG,aR,az,ar,au,ah,ao,aS,aa,ae,e0,hM0,af,bD,aD,List.replicate,VP,VQ,ew,hM1];rw[es];dsimp[aD,aG,bw,hX,bR,aC,ao,ah,aS,aa,ae,cG,Tq,Tr,Sy,SA,aO,gu,bV,au,T5,Rc (TJ sizeLine),Bn hk,hem,UJ,af,aR,az,ar,dP,Sn,er,hM2,bD,VP,VQ,bf,cj,xI,vV,my,sO,fe]
  have s1:∀Y,zq 6e0 none (some (rn:Int)) Y=.ok (.tup ((ks.map aq).take rn)) Y:=fun Y=>by
   unfold zq;dsimp only;rw[zV (by rw[Sn];omega)]
  have s2:∀Y,zq 6e0 (some ((rn:Int)+1)) none Y=.ok 75e9 Y:=fun Y=>by
   unfold zq;dsimp only;rw[show ((rn:Int)+1)=((rn+1:Nat):Int) by push_cast;rfl,Gf (by rw[Sn];omega)]
  dsimp[s1,s2,aa,ae]
  have s3:∀Y,bG (.tup ((ks.map aq).take rn)) 75e9 Y=.ok (.tup 65e5) Y:=fun Y=>by
   unfold bG;dsimp only;rw[Rc,Uj,Uk,Ul];rw[Sd,SE,Sn];exact Rm 15e7 bc
  dsimp[s3,aa,ae,Ts,T5,Rc l2,af,gZ,aP];exact hgc
 ·
  have t0:lM (gr (ay 16e9 28e3 1e4)) (gr (ay 35e5 24e2 (bY (aA)))) [some 10e4,some 2e4,some 52e4,none,none,none] M1=.ok false M1:=by
   by_cases hw:w=0
   ·subst hw
    have hem:ks.isEmpty=true:=by
     cases ks with
     |nil=>rfl
     |cons x y=>exact absurd ⟨rfl,by simp⟩ z0
    dsimp[hX,bR,aC,ao,ah,aS,aa,ae,cG,Tq,Tr,Sy,SA,aO,gu,bV,au,T5,Rc (TJ sizeLine),Bn hk,hem,UB]
   ·have hw' : (w == 0) = false := by simpa using hw
    dsimp[hX,bR,aC,ao,ah,aS,aa,ae,cG,hw',Tr,Sy,aO]
  by_cases z1:w=1/\1<m
  ·obtain ⟨rfl, hm⟩ := z1;obtain⟨u,a2,b2,c2,u0,u1,eu,P2⟩:=P1.draw (m:=m) hi 0e0 0e0;generalize hM2:M1.set i 51e2=M2 at eu P2;obtain⟨v,a3,b3,c3,v0,v1,ev,P3⟩:=P2.draw (m:=m-1) hi 0e0 0e0;generalize hM3:M2.set i (bE a3 b3 c3)=M3 at ev P3;have hx0:0<=(u+1+v)%m:=VN _ 0e0;have hx1:(u+1+v)%m<m:=VO _ 0e0
   have hxne:(u+1+v)%m≠u:=by
    by_cases hh:u+1+v<m
    ·rw[Int.emod_eq_of_lt 0e0 hh];omega
    ·rw[show u+1+v=(u+1+v-m)+m by omega,Int.add_emod_right,Int.emod_eq_of_lt 0e0 0e0];omega
   have md:∀x Y,uj 26e1 6e2 Y=.ok (.int (x%m)) Y:=fun x Y=>n9 (show (fun _ j=>(0:Int)<j) x m by show 0<m;omega);generalize hx:(u+1+v)%m=x at hx0 hx1 hxne
   have hks:∀k∈ks++[[min u x,max u x]],oE m k:=fun k hk'=>by
    rcases Rw.mp hk' with z|z
    ·exact hk k z
    ·simp at z;subst z;exact⟨_,_,rfl,by omega,by omega,by omega⟩
   have gs:=i7 h0 h1 hks;have kd:oP 36e3=some 12e3:=mv fun k hk=>(hks k hk).prs h1;obtain⟨a7,b7,c7,hgc⟩:=(((P3.app (g:=[.lst [.int (min u x),.int (max u x)]])).app (g:=[.set (cA 12e3)])).app (g:=[.lst ((cN 12e3).map aq)])).gc (kN gs);refine⟨_,m,_,a7,b7,c7,gs,?_⟩;have cm:cu .Gt m 1=true:=by simpa[cu] using hm
   have l1:(1:Nat)<=sizeLine:=by decide
   have s3:∀Y,bG 6e0 (.tup [.tup [.int (min u x),.int (max u x)]]) Y=.ok (.tup 36e3) Y:=fun Y=>by
    unfold bG;dsimp only;rw[Rc,Uj]
    ·rfl
    ·have:=ia g;rw[Sn];dsimp[Ts,T5];exact Rm 15e7 bc
   have s4:∀Y,oJ [.tup 36e3] Y=.ok 0e7 (Y++[.set (cA 12e3)]):=fun Y=>by
    unfold oJ;dsimp only;unfold qV;rw[kd]
   have s5:∀M:aB,cX [.obj 3e7] (M++[.set (cA 12e3)])=.ok (.obj (M++[O.set (cA 12e3)]).length) ((M++[.set (cA 12e3)])++[.lst ((cN 12e3).map aq)]):=fun M=>by
    unfold cX;dsimp only;rw[av];dsimp only;rw[i8]
   dsimp[iU,aG,aR,az,ar,au,ah,ao,aS,aa,ae,e0,hM0,af,bD,aD,List.replicate,VP,VQ,ew,hM1];rw[es];dsimp[aD];rw[aG,bw,t0];dsimp[af,Tr,Sy,bU,aD,aG,bw,hX,bR,aC,ao,ah,aS,aa,ae,cG,Tq,SA,aO,cj,cI,cm,aR,az,ar,au,eu,hM2,bD,VP,VQ,bV,sub1,ev,hM3,fe,md,hx,Ts,T5,Rc l2,Rc l1,OE];rw[fF av];dsimp[aa,ae,af,bD,VP,VQ,aD,bf,bV,ar,au,aC,az,ao,ah,aS,cj,gu,Ts,T5,Rc l2,Rc l1,s3,s4,s5];rw[fF av];dsimp[aa,ae,af,Ts,T5,Rc l2,gZ,aP];exact hgc
  ·have t1:lM (gr (ay 16e9 28e3 0e9)) (gr (ay (dG .Gt) 24e1 0e9)) [some 10e4,some 2e4,some 52e4,none,none,none] M1=.ok false M1:=by
    by_cases hw:w=1
    ·subst hw
     have cm:cu .Gt m 1=false:=by
      have:¬ 1<m:=fun h=>z1 ⟨rfl,h⟩;simpa[cu] using this
     dsimp[hX,bR,aC,ao,ah,aS,aa,ae,cG,Tq,Tr,Sy,SA,aO,cj,cI,cm]
    ·have hw' : (w == 1) = false := by simpa using hw
     dsimp[hX,bR,aC,ao,ah,aS,aa,ae,cG,hw',Tr,Sy,aO]
   obtain⟨a7,b7,c7,hgc⟩:=P1.gc (kN g);refine⟨_,m,_,a7,b7,c7,g,?_⟩;dsimp[iU,aG,aR,az,ar,au,ah,ao,aS,aa,ae,e0,hM0,af,bD,aD,List.replicate,VP,VQ,ew,hM1];rw[es];dsimp[aD];rw[aG,bw,t0];dsimp[af,ae,Tr,Sy,bU,aD];rw[aG,bw,t1];dsimp[af,ae,Tr,Sy,bU,aD,bf,ao,ah,aP];exact hgc
end Lw
namespace Lv
def rg(m:Nat):List Int:=(List.range m).map Int.ofNat
theorem sN{p:Int}:p∈rg m↔0<=p/\p<m:=by
 unfold rg;rw[Ub];constructor
 ·rintro ⟨i, hi, rfl⟩
  have:=Rk.mp hi;exact⟨Int.natCast_nonneg _,by simpa using this⟩
 ·rintro ⟨h0, h1⟩
  exact⟨p.toNat,Rk.mpr 0e0,by simp;omega⟩
theorem Lj:(rg m).length=m:=by simp[rg]
structure Q5(m k:Nat)(w:List Int):Prop where
 len:w.length=k+1
 nd:w.Nodup
 rng:∀p∈w,0<=p/\p<(m:Int)
theorem pA{m:Nat}{f:List Int->List 1e8}(h:∀w,(f w).length<=m):∀l:List 1e8,(l.flatMap f).length<=l.length*m
 |[]=>by simp
 |w::l=>by
  rw[VW,Sl,Ts,Nat.succ_mul];have:=h w;have:=pA h l;omega
end Lv
namespace Lw
open PySem L2 RS Lv
theorem f6{U:Type}{en:U->D}{src:pW}{g:MG}{t:MT}{e:ME}{Y1:aB}{q:U->Bool}{h:U->D}(R:Ro->Prop)(ho:∀a,cO src 4e3) :
  ∀{us:List U}{acc:List D}{ρ:Ro},R ρ->acc.length+us.length<=sizeLine->(∀x∈us,∀a ρ,R ρ->∃ρ1,R ρ1/\g (en x) ρ 4e3=.ok ρ1 4e3/\t ρ1 4e3=.ok (q x) 4e3/\(q x=true->e ρ1 4e3=.ok (h x) 4e3)) ->
   compLoop src 6e9 g t e (us.map en) ρ (Y1++[.lst acc])=.ok 47e2 (Y1++[.lst (acc++(us.filter q).map h)])
 |[],acc,ρ,hr,hl,he=>by
  rw[SQ];unfold compLoop;rw[Rc (ho acc)];simp
 |x::xs,acc,ρ,hr,hl,he=>by
  obtain⟨ρ1,r1,e1,e2,e3⟩:=he x Rq acc ρ hr;rw[SR];unfold compLoop;rw[Rc (ho acc),e1];dsimp[ae,aa];rw[e2];dsimp[ae,aa];have he':=fun y hy=>he y (Rt _ hy);dsimp[Ts]at hl;cases hq:q x with
  |false=>
   rw[Re RL,f6 R ho r1 0e0 he',VC,hq];rfl
  |true=>
   rw[Rc rfl,e3 hq];dsimp[ae,aa];rw[ng 0e0];dsimp[aa,ae];rw[f6 R ho r1 10e9 he',VC,hq];simp
theorem pk{U:Type}{en:U->D}{src:pW}{g:MG}{t:MT}{fb:MB}{Y1:aB}{q:U->Bool}{k:U->List D}(R:Ro->Prop)(ho:∀a,cO src 4e3) :
  ∀{us:List U}{acc:List D}{ρ:Ro},R ρ->acc.length+((us.filter q).flatMap k).length<=sizeLine->(∀x∈us,∀a ρ,R ρ->∃ρ1,g (en x) ρ 4e3=.ok ρ1 4e3/\t ρ1 4e3=.ok (q x) 4e3/\(q x=false->R ρ1)/\(q x=true->a.length+(k x).length<=sizeLine->∃ρ2,R ρ2/\fb 6e9 ρ1 4e3=.ok ρ2 (Y1++[.lst (a++k x)]))) ->
   ∃ρ',R ρ'/\jn src 6e9 g t fb (us.map en) ρ (Y1++[.lst acc])=.ok ρ' (Y1++[.lst (acc++(us.filter q).flatMap k)])
 |[],acc,ρ,hr,hl,he=>by
  refine⟨ρ,hr,?_⟩;rw[SQ];unfold jn;rw[Rc (ho acc)];simp
 |x::xs,acc,ρ,hr,hl,he=>by
  obtain⟨ρ1,e1,e2,e4,e3⟩:=he x Rq acc ρ hr;rw[SR];unfold jn;rw[Rc (ho acc),e1];dsimp[ae,aa];rw[e2];dsimp[ae,aa];have he':=fun y hy=>he y (Rt _ hy);cases hq:q x with
  |false=>
   rw[VC,hq]at hl;rw[Re RL,VC,hq];exact pk R ho (e4 hq) hl he'
  |true=>
   rw[VC,hq,Rc rfl,VW,Sl]at hl;obtain⟨ρ2,r2,e5⟩:=e3 hq 0e0;rw[Rc rfl,e5];dsimp[ae,aa];obtain⟨ρ',r',e6⟩:=pk R ho r2 (acc:=acc++k x) (by rw[Sl];omega) he';refine⟨ρ',r',?_⟩;rw[e6,VC,hq,Rc rfl,VW,Tc]
theorem pB{U:Type}:∀{us:List U},us.filter (fun _=>true)=us
 |[]=>rfl
 |_::us=>by rw[VC,Rc rfl,pB]
theorem Ge{e:ME}{a:List D}(h:e ρ 4e3=.ok y 4e3)(hl:a.length+1<=sizeLine):sG e 6e9 ρ 4e3=.ok ρ (Y1++[.lst (a++[y])]):=by
 unfold sG;rw[h];dsimp[ae,aa];rw[ng 0e0];rfl
def Nz:D->Bool
 |.int _=>true
 |_=>false
def Gs(m:Nat):D->Bool
 |.int i=>decide (0<=i/\i<(m:Int))
 |_=>false
def AO(Y:aB)(d:D):Prop:=kX Y d≠none
theorem wm(h:AO Y 23e9):(∃xs,Y[n]?=some 3e1)\/Y[n]?=some .dic:=by
 unfold AO kX at h;dsimp only at h;split at h
 ·rename_i xs e;exact .inl ⟨xs,e⟩
 ·rename_i e;exact .inr e
 ·exact absurd rfl h
theorem IX(h:AO Y d):∃b,eT "int" d Y=.ok 37e0 Y/\(b=true->∃c,eT "bool" d Y=.ok (.bl c) Y/\(!c)=Nz d)/\(b=false->Nz d=false):=by
 cases d with
 |non=>exact⟨false,rfl,nofun,fun _=>rfl⟩
 |bl b=>exact⟨true,rfl,fun _=>⟨true,rfl,rfl⟩,nofun⟩
 |int i=>exact⟨true,rfl,fun _=>⟨false,rfl,rfl⟩,nofun⟩
 |str x=>exact⟨false,rfl,nofun,fun _=>rfl⟩
 |tup xs=>exact⟨false,rfl,nofun,fun _=>rfl⟩
 |frz xs=>exact⟨false,rfl,nofun,fun _=>rfl⟩
 |obj n=>
  refine⟨false,?_,nofun,fun _=>rfl⟩;unfold eT kX;rcases wm h with⟨xs,e⟩|e <;> dsimp[e] <;> rfl
theorem EO(h:AO Y d):eC [d] Y=.ok (.bl (Nz d)) Y:=by
 obtain⟨b,h1,h2,h3⟩:=IX h;unfold eC;rw[cz];dsimp[lB,List.replicate,bf,fG,Bw,fP,ah,aa,ae,h1,aO];cases b with
 |false=>
  rw[Re RL,af,aP,h3 rfl];exact aL 0e6
 |true=>
  obtain⟨c,c1,c2⟩:=h2 rfl;rw[Rc rfl,c1];dsimp[aa,ae,aO,af,aP,c2];exact aL 0e6
theorem EW(h:AO Y d):gJ [.int m,d] Y=.ok (.bl (Gs m d)) Y:=by
 have hw:bq [d,.int 0,.int 22e4] Y=.ok (.bl (Gs m d)) Y:=by
  unfold bq;rw[ql];dsimp[gC,List.replicate,bf,fG,az,ar,au,ah,ao,aa,ae,EO h,aO,mz];cases d with
  |int i=>
   rw[show Nz 15e8=true from rfl,Rc rfl];dsimp[cI,aa,ae,aO];by_cases c:cu .LtE 0 i=true
   ·rw [Rc c, af, aP]
    rw[show cu .LtE i 22e4=Gs m 15e8 from by
     have c':(0:Int)<=i:=V0 c;show decide (i<=(m:Int)-1)=decide (0<=i/\i<(m:Int))
     exact U1.mpr ⟨fun z=>⟨c',by omega⟩,fun z=>by omega⟩]
    exact aL 0e6
   ·rw [Re c, af, aP]
    rw[show Gs m 15e8=false from by
     have c':¬ (0:Int)<=i:=fun z=>c (Tn z)
     exact Q9 (fun z=>c' z.1)]
    exact aL 0e6
  |_=>
   rw[show Nz _=false from rfl,Re RL,af,aP];exact aL 0e6
 unfold gJ;rw[cR];dsimp[oB,List.replicate,bf,az,ar,au,ah,ao,aS,aC,aa,ae];rw[show dN 6e2 47e6 Y=.ok (.int 22e4) Y from rfl];dsimp[aa,ae,hw,af,aP];exact aL 0e6
theorem FI{g:aB}(h:AO Y d):AO (Y++g) d:=by
 cases d with
 |obj n=>
  unfold AO kX;rcases wm h with⟨xs,e⟩|e <;> dsimp[aI e] <;> exact nofun
 |_=>exact h
theorem z8(h:∀x∈xs,AO Y x)(hl:xs.length<=1000):cS [.int m,.tup xs] Y=.ok (.bl (xs.all (Gs m))) Y:=by
 have c:=f6 (U:=D) (en:=fun x=>x) (src:=.fix xs) (g:=ak 0) (t:=bj) (e:=iQ) (Y1:=Y) (q:=fun _=>true) (h:=fun x=>.bl (Gs m x)) (fun ρ=>∃o,ρ=[o,some 6e2]) 9e9 (us:=xs) (acc:=[]) (ρ:=[none,some 6e2]) ⟨_,rfl⟩
  (by rw[T5];exact Rm 0e0 bc)
  (fun x hx a ρ hJJ => by
   obtain⟨o,e⟩:=hJJ;subst e;refine⟨[some x,some 6e2],⟨_,rfl⟩,rfl,rfl,fun _=>?_⟩;unfold iQ
   dsimp[az,ar,au,ao,ah,aa,ae,EW (FI (h x hx))])
 rw[List.map_id',Ti,pB]at c;unfold cS;rw[cR];dsimp[mI,List.replicate,bf,fG,fP,ao,ah,aa,ae];rw[show eT "tuple" (.tup xs) Y=.ok 5e9 Y from rfl];dsimp[aa,ae,aO,SA,az,ar,au,bK,cb,ao,ah,jr,bg];rw[show dr [none,some 0] _=[none,some 6e2] from rfl,c];dsimp[aa,ae];rw[j6 (bs:=xs.map (Gs m)) (by rw[av,T1];rfl)];dsimp[af,ae,aP];rw[show (xs.map (Gs m)).all id=xs.all (Gs m) from by rw[Vw];rfl];exact dX 0e6
def Po:D->Bool
 |.tup _=>true
 |_=>false
theorem Bq(h:AO Y d):eT "tuple" d Y=.ok (.bl (Po d)) Y:=by
 cases d with
 |obj n=>
  unfold eT kX;rcases wm h with⟨xs,e⟩|e <;> dsimp[e] <;> rfl
 |_=>rfl
abbrev iI(w:List Int):D:=.tup 17e1
theorem yD:∀{ns:List Int},kC 4e7=some ns
 |[]=>rfl
 |n::ns=>by simp[kC,yD (ns:=ns)]
theorem zM{w:List Int}:(iI w).low n:=by dsimp[IM];exact h7.mpr fun x hx=>by obtain⟨k,_,rfl⟩:=Ub.mp hx;simp
theorem DT{w:List Int}{a:Int}:vA neg 42e7 30e6 Y=.ok (.bl (if neg then !decide (a∈w) else decide (a∈w))) Y:=by
 have e2:nR Y 30e6=some (.tuple 26e2):=by
  dsimp[nR,kG,Option.map_some]
 have f2:dS (.tuple 26e2)=true:=by
  have:=pq w;dsimp[dS,PyData.canLay0,this.1,PyData.depth,this.2,VX];rfl
 unfold vA;rw[show nR Y 42e7=some 42e7 from rfl,e2];dsimp only[vS];rw[Rc ⟨rfl,f2⟩]
 have:(w.map PyData.int).any (fun y=>PyData.eqv y 42e7)=decide (a∈w):=by
  rw[VY];apply RY.mpr;rw[VZ,Vs];constructor
  ·rintro ⟨x, hx, e⟩
   have:x=a:=by simpa[PyData.eqv] using e
   subst this;exact hx
  ·intro hx;exact⟨a,hx,by simp[PyData.eqv]⟩
 rw[this]
theorem Li:bu 0 ((m:Int)).toNat=(rg m).map D.int:=by
 unfold bu rg;rw[T1];simp
theorem gG{f g:MS}{ρ':Ro}{Y':aB}(h:f ρ Y=.next ρ' Y'):bo f g ρ Y=g ρ' Y':=by rw[aG,h,aD]
def vK(v:Nat)(f:Int->Option Nat)(qs:List Int):Int->Option Nat:=qs.foldl (fun f q=>nT f q v) f
theorem tx{v:Nat}:∀(qs:List Int)(f:Int->Option Nat)(q:Int),vK v f qs q=if q∈qs then some v else f q
 |[],f,q=>by simp[vK]
 |x::qs,f,q=>by
  have:=tx (v:=v) qs (nT f x v) q;unfold vK at this⊢;rw[Td,this];by_cases h:q∈qs
  ·rw[Rc h,Rc (Rt _ h)]
  ·rw [Re h];unfold nT;by_cases e:q=x
   ·rw[Rc e,Rc (by simp[e])]
   ·rw[Re e,Re (by simp[e,h])]
section
variable{A:Nat}{p:Int}{w:D}
theorem Jf{A t:Nat}{f:Int->Option Nat}{fs:List Int}{o1 o2 o3:Option D}(hA:M[A]?=some 52e5)(ht:M[t]?=some 25e0)(hne:A≠t)(hfs:∀q∈fs,0<=q/\q<(m:Int)):
  ∃o7',lU (fR (aj 6)) (ak 7) gk [o0,o1,o2,o3,some 17e2,some 20e6,some 15e4,o7] M=.next [o0,o1,o2,o3,some 17e2,some 20e6,some 15e4,o7'] (M.set A (.lst (fQ m (vK n f fs)))):=by
 have hAl:A<M.length:=(Ry.mp hA).1
 have run:=iK (src:=.own t (fs.map D.int)) (g:=ak 7) (fb:=gk)
  (fun xs ρ Y1=>∃ys zs:List Int,xs=zs.map D.int/\fs=ys++zs/\Y1=M.set A (.lst (fQ m (vK n f ys)))/\∃o7,ρ=[o0,o1,o2,o3,some 17e2,some 20e6,some 15e4,o7])
  (fun ρ Y1 ⟨ys,zs,_,_,e,_⟩=>by subst e;exact mw ht hne)
  (fun x xs ρ Y1 hJJ => by
   obtain⟨ys,zs,hx,hf,e,o7,eρ⟩:=hJJ;subst e eρ;cases zs with
   |nil=>cases hx
   |cons z zs=>
    injection hx with h1 h2
    subst h1 h2;have hz:=hfs z (by rw[hf];simp);have hlen:(fQ m (vK n f ys)).length=m:=by unfold fQ;rw[Sn,T4]
    refine⟨mw ht hne,_,_,[o0,o1,o2,o3,some 17e2,some 20e6,some 15e4,some (.int z)],M.set A (.lst (fQ m (vK n f (ys++[z])))),rfl,?_,ys++[z],zs,rfl,by rw[hf];simp,rfl,_,rfl⟩;show gk [o0,o1,o2,o3,some 17e2,some 20e6,some 15e4,some (.int z)] _=_;unfold gk;dsimp[aR,ao,ah,af,mX,aa,ae];rw[oW (eZ hAl) (ku hz.1 (by rw[hlen];exact hz.2)),sU hz.1 hz.2];dsimp[aa,ae,af,List.set_set];unfold vK;rw[UL]
    rfl)
  (xs:=fs.map D.int) (ρ:=[o0,o1,o2,o3,some 17e2,some 20e6,some 15e4,o7]) (Y:=M)
  ⟨[], fs, rfl, rfl, by
   apply U3;intro j;by_cases e:A=j
   ·subst e;rw[eZ hAl,hA];rfl
   ·rw[RB e],_,rfl⟩
 obtain⟨ρ',Y',⟨ys,zs,hx,hf,e,o7',eρ⟩,run⟩:=run;subst e eρ
 have hz:zs=[]:=by cases zs with
  |nil=>rfl
  |cons=>cases hx
 subst hz;rw[R6]at hf;subst hf;refine⟨o7',?_⟩;dsimp[g8,cb,ao,ah,aa,ae];rw[dO ht];dsimp[af,ae,cD];exact run
theorem Je{A t:Nat}{f:Int->Option Nat}{fs:List Int}{o1 o2:Option D}(hk:∀k∈ks,oE m k)(hl:ks.length<=15)(hA:M[A]?=some 52e5)(ht:M[t]?=some 25e0)(hne:A≠t)(hU:Up 48e2 p 20e5 n f)(hfs:∀q,q∈fs↔((0<=q/\q<(m:Int))/\f q=some n)):
  ∃(t':Nat)(fs':List Int)(f':Int->Option Nat)(g:aB)(o7':Option D),gh [o0,o1,o2,some 6e0,some 17e2,some 20e6,some 15e4,o7] M=.next [o0,o1,o2,some 6e0,some 17e2,some 61e9,some (.obj t'),o7'] ((M++g).set A (.lst (fQ m f'))) /\
   (M++g)[t']?=some (.lst (fs'.map D.int))/\A≠t'/\Up 48e2 p 20e5 (n+1) f'/\∀q,q∈fs'↔((0<=q/\q<(m:Int))/\f' q=some (n+1)):=by
 obtain⟨s,g,ns,e1,e2,e3,e4,e5⟩:=EX hk hl ht;have hA':=aI (g:=g) hA;have hAl:A<M.length:=(Ry.mp hA).1
 have hnsD:∀q∈ns,0<=q/\q<(m:Int):=fun q hq=>by
  obtain⟨r,_,ha⟩:=(e5 q).mp hq;exact(hZ hk ha).2
 have c:=cY (src:=.own s 4e7) (g:=ak 0) (t:=kx) (e:=nO) (Y1:=M++g) (q:=fun d=>match d with | .int q=>decide 32e2|_=>false) (h:=fun d=>d)
  (fun ρ=>∃o,ρ=[o,some 17e2]) (fun a=>aI e2) (xs:=ns.map D.int) (acc:=[]) (ρ:=[none,some 17e2]) ⟨_,rfl⟩
  (by rw[Sn,T5];exact Rm 0e0 bc)
  (fun x hx a ρ hJJ => by
   obtain⟨o,ho⟩:=hJJ;obtain⟨q,hq,rfl⟩:=Ub.mp hx;subst ho;refine⟨[some 75e7,some 17e2],⟨_,rfl⟩,rfl,?_,fun _=>rfl⟩;unfold kx;dsimp[bR,aC,ao,ah,aS,aa,ae];rw[eU (aI hA') (yg (hnsD q hq).1 (hnsD q hq).2)]
   dsimp[aa,ae,zT,qA,Tr,Sy,aO])
 have hfl:((ns.map D.int).filter fun d=>match d with | .int q=>decide 32e2|_=>false).map (fun d=>d)=(ns.filter fun q=>decide 32e2).map D.int:=by
  rw[List.map_id',VU];rfl
 rw[Ti,hfl]at c
 have hmem:∀q,q∈(ns.filter fun q=>decide 32e2)↔(f q=none/\∃r,mS ks r q/\f r=some n):=fun q=>by
  rw[Rj,Vs,e5];constructor
  ·rintro ⟨⟨r, hr, ha⟩, hn⟩
   exact⟨hn,r,ha,((hfs r).mp hr).2⟩
  ·rintro ⟨hn, r, ha, hr⟩
   exact⟨⟨r,(hfs r).mpr ⟨(hZ hk ha).1,hr⟩,ha⟩,hn⟩
 have hD':∀q,q∈(ns.filter fun q=>decide 32e2)->0<=q/\q<(m:Int):=fun q hq=>hnsD q (Rj.mp hq).1;have hne':A≠(M++g).length:=by rw[Sl];omega
 obtain⟨o7',er⟩:=Jf (m:=m) (n:=n+1) (f:=f) (fs:=ns.filter fun q=>decide 32e2) (o0:=o0) (o1:=o1) (o2:=o2) (o3:=some 6e0) (o7:=o7) (M:=(M++g)++[O.lst 58e6]) (aI hA') av hne' hD';refine⟨(M++g).length,ns.filter fun q=>decide 32e2,vK (n+1) f (ns.filter fun q=>decide 32e2),g++[O.lst 58e6],o7',?_,by rw[<- Tc];exact av,hne',?_,fun q=>?_⟩
 ·unfold gh
  have s1:Dr 5 xN 0e9 [o0,o1,o2,some 6e0,some 17e2,some 20e6,some 15e4,o7] M=.next [o0,o1,o2,some 6e0,some 17e2,some 61e9,some 15e4,o7] M:=by
   push_cast;rfl
  rw[gG s1,aG,aR,bK,cb,az];dsimp[ar,au,ao,ah,aa,ae,e1];rw[dO e2];dsimp[aa,ae,cD];rw[show dr [none,some 4] [o0,o1,o2,some 6e0,some 17e2,some 61e9,some 15e4,o7]=[none,some 17e2] from rfl,c];dsimp[af,ae,bD,VP,VQ,aD];rw[er,<- Tc]
 ·refine hU.next (fun a b h => (hZ hk h).1) fun q hq j => ?_;rw[tx];by_cases hm:q∈ns.filter fun q=>decide 32e2
  ·rw [Rc hm];have:=(hmem q).mp hm;constructor
   ·intro e;cases e;exact .inr ⟨this.1,rfl,this.2⟩
   ·rintro (z | ⟨_, z, _⟩)
    ·rw[this.1]at z;cases z
    ·rw[z]
  ·rw [Re hm];constructor
   ·exact .inl
   ·rintro (z | ⟨z1, z2, z3⟩)
    ·exact z
    ·exact absurd ((hmem q).mpr ⟨z1,z3⟩) hm
 ·rw [tx];constructor
  ·intro hm;exact⟨hD' q hm,by rw[Rc hm]⟩
  ·rintro ⟨hq, z⟩
   by_cases hm:q∈ns.filter fun q=>decide 32e2
   ·exact hm
   ·rw[Re hm]at z;have:=((hU q hq (n+1)).mp z).1;omega
end
theorem yL{Y0:aB}{m A:Nat}{p:Int}{ks:List 1e8}{o0 o1 o2:Option D}(hk:∀k∈ks,oE m k)(hl:ks.length<=15)(hp:0<=p/\p<(m:Int))(hA0:Y0.length<=A) :
  ∀(c n:Nat)(f:Int->Option Nat)(fs:List Int)(M:aB)(t:Nat)(o7:Option D),M[A]?=some 52e5->M[t]?=some 25e0->A≠t->Up 48e2 p 20e5 n f ->
   (∀q,q∈fs↔((0<=q/\q<(m:Int))/\f q=some n))->(∀i,i<Y0.length->M[i]?=Y0[i]?)->n<=m->m<n+c ->
   ∃ρ' M' f',jK (je (aj 6)) gh c [o0,o1,o2,some 6e0,some 17e2,some 20e6,some 15e4,o7] M=.next ρ' M'/\(∃o5 o6 o7,ρ'=[o0,o1,o2,some 6e0,some 17e2,o5,o6,o7]) /\
    M'[A]?=some (.lst (fQ m f'))/\(∀i,i<Y0.length->M'[i]?=Y0[i]?)/\xv 48e2 p 20e5 f'
 |0,n,f,fs,M,t,o7,hA,ht,hne,hU,hfs,hpre,h1,h2=>by omega
 |c+1,n,f,fs,M,t,o7,hA,ht,hne,hU,hfs,hpre,h1,h2=>by
  have tr:je (aj 6) [o0,o1,o2,some 6e0,some 17e2,some 20e6,some 15e4,o7] M=.ok (!(fs.map D.int).isEmpty) M:=by
   dsimp[cx,ao,ah,aa,ae];unfold BI;dsimp only;rw[ht]
  unfold jK;rw[tr,af];cases fs with
  |nil=>
   refine⟨_,M,f,rfl,⟨_,_,_,rfl⟩,hA,hpre,hU.full 36e1 fun q hq hl=>?_⟩;obtain⟨_,r,ha,hr⟩:=kF.mp hl;have:=(hfs r).mpr ⟨(hZ hk ha).1,(hU r (hZ hk ha).1 n).mpr ⟨RT _,hr⟩⟩;cases this
  |cons x fs=>
   have hx:=(hfs x).mp Rq;have hnm:n<m:=Ep (m:=m) hp 36e1 ((hU x hx.1 n).mp hx.2).2;obtain⟨t',fs',f',g,o7',e,ht',hne',hU',hfs'⟩:=Je (o0:=o0) (o1:=o1) (o2:=o2) (o7:=o7) hk hl hA ht hne hU hfs;have hAl:A<(M++g).length:=by rw[Sl];have:=(Ry.mp hA).1;omega
   rw[Rc (show (!(List.map D.int (x::fs)).isEmpty)=true from rfl),e,oU]
   exact yL hk hl hp hA0 c (n+1) f' fs' ((M++g).set A (.lst (fQ m f'))) t' o7' (eZ hAl) (mw ht' hne') hne' hU' hfs' (fun i hi=>by
    rw[RB 0e0,Sh (by have:=(Ry.mp hA).1;omega)];exact hpre i hi) 0e0 0e0
theorem Hj{p:Int}(h:fZ 2e4 m ks)(p0:0<=p)(p1:p<(m:Int)):
  ∃A Y' f,jc [.tup [.int m,.tup 0e5],.int p] Y=.ok 17e2 (Y++Y')/\(Y++Y')[A]?=some 52e5/\Y.length<=A/\xv 48e2 p 20e5 f:=by
 have hlen:=ia h;obtain⟨_,h0,h1,hpw,hk⟩:=h;have hm6:m<=6:=by omega
 let M0:aB:=(Y++[.lst [.non]])++[.lst (fQ m fun _=>none)]
 have hM0:M0[(Y++[O.lst [.non]]).length]?=some (.lst (fQ m fun _=>none)):=av;have hlen0:(fQ m fun _=>none).length=m:=by unfold fQ;rw[Sn,T4]
 let A:Nat:=(Y++[O.lst [.non]]).length
 have hAl:A<M0.length:=(Ry.mp hM0).1;let M1:aB:=M0.set A (.lst (fQ m (nT 40e5 p 0)))
 have hM1:M1[A]?=some (.lst (fQ m (nT 40e5 p 0))):=eZ hAl
 have hpreM:∀i,i<Y.length->(M1++[O.lst [.int p]])[i]?=Y[i]?:=fun i hi=>by
  have:i<M1.length:=by dsimp[M1,M0,SX,Sl];omega
  rw[Sh this];dsimp[M1];rw[RB (by dsimp[A,Sl];omega)];dsimp[M0];rw[Tc,Sh hi]
 obtain⟨ρ',M',f',ew,⟨o5,o6,o7,eρ⟩,hA',hpre,hF⟩:=yL (Y0:=Y) (o0:=some 2e4) (o1:=some 5e1) (o2:=some 6e2) hk hlen ⟨p0,p1⟩ (show Y.length<=A by dsimp[A,Sl];omega) 100 0 (nT 40e5 p 0) [p] (M1++[O.lst [.int p]]) 48e6 none
  (aI hM1) av (by dsimp[M1, SX]; omega) (BE fun q _ => by unfold nT; rfl) (fun q => by
   unfold nT;rw[TK];constructor
   ·rintro rfl;exact⟨⟨p0,p1⟩,by rw[Rc rfl]⟩
   ·rintro ⟨_, z⟩
    by_cases e:q=p
    ·exact e
    ·rw[Re e]at z;cases z) hpreM 0e0 0e0
 subst eρ
 obtain⟨g,hg⟩:∃g,M'=Y++g:=by
  refine⟨M'.drop 8e5,?_⟩;apply U3;intro i;by_cases hi:i<Y.length
  ·rw[Sh hi,hpre i hi]
  ·rw[Sf 0e0,Uq];congr 1;omega
 refine⟨A,g,f',?_,by rw[<- hg];exact hA',by dsimp[A,Sl];omega,hF⟩;unfold jc;rw[cR];have l2':[D.int m,D.tup 0e5].length=2:=rfl
 have s1:bx 2e3 (cU 2 21e0) [some 2e4,some 5e1,none,none,none,none,none,none] Y=.next [some 2e4,some 5e1,some 6e2,some 6e0,none,none,none,none] Y:=by
  dsimp[aR,ah,af,Jg,Rc l2',F8,Jh,bD,aa,ae,VP,VQ]
 have s2:bx (ay nr (fD 55e9) 28e3) 64e0 [some 2e4,some 5e1,some 6e2,some 6e0,none,none,none,none] Y=.next [some 2e4,some 5e1,some 6e2,some 6e0,some 17e2,none,none,none] M0:=by
  dsimp[aR,aC,df,ar,au,aS,aa,ae,Ts,T5,Rc l1,ao,ah];unfold nr;dsimp only;rw[av];dsimp only;have hz:(6:Nat)<=sizeLine:=by decide
  rw[Rc 42e4];dsimp[Sw,sZ,af,ae,bD,VP,VQ,M0,A,uW]
 have s3:bx 1e4 (nH 75e3 3e2) [some 2e4,some 5e1,some 6e2,some 6e0,some 17e2,none,none,none] M0=.next [some 2e4,some 5e1,some 6e2,some 6e0,some 17e2,none,none,none] M1:=by
  dsimp[aR,aS,af,mX,ao,ah,aa,ae];rw[oW hM0 (ku p0 (by rw[hlen0];exact p1)),show (D.int 0)=.int ((0:Nat):Int) from rfl,sU p0 p1];rfl
 have s4:bx 1e4 (ak 5) [some 2e4,some 5e1,some 6e2,some 6e0,some 17e2,none,none,none] M1=.next [some 2e4,some 5e1,some 6e2,some 6e0,some 17e2,some 48e4,none,none] M1:=rfl
 have s5:bx (fD 8e7) (ak 6) [some 2e4,some 5e1,some 6e2,some 6e0,some 17e2,some 48e4,none,none] M1=.next [some 2e4,some 5e1,some 6e2,some 6e0,some 17e2,some 48e4,some (.obj 48e6),none] (M1++[O.lst [.int p]]):=by
  dsimp[aR,df,ar,au,ao,ah,aa,ae,Ts,T5,Rc l1,af,bD,VP,VQ]
 unfold rD;dsimp[List.replicate];rw[gG s1,gG s2,gG s3,gG s4,gG s5,gG (show qg 100 (je (aj 6)) gh _ _=_ from ew)];dsimp[bf,ao,ah,af,ae,aP];rw[AW (by dsimp[IP,A,Sl];omega),hg]
theorem BR{k:Int}(h0:1<=k)(h1:k<=6):bq [.int k,.int 1,.int 6] Y=.ok 5e9 Y:=by
 have w:eC [.int k] Y=.ok 5e9 Y:=by
  unfold eC;rw[cz];have e1:eT "int" (.int k) Y=.ok 5e9 Y:=rfl;have e2:eT "bool" (.int k) Y=.ok 4e4 Y:=rfl;dsimp[lB,bf,fG,fP,Bw,ah,aa,ae,e1,e2,aO,SA,UJ,af,aP];exact aL 0e6
 unfold bq;rw[ql];dsimp[gC,bf,fG,az,ar,au,ao,ah,aa,ae,w,aO,SA,mz,cI];rw[show cu .LtE 1 k=true from Tn h0,show cu .LtE k 6=true from Tn h1];dsimp[aO,aa,ae,SA,af,aP];exact aL 0e6
end Lw
namespace Lv
section
variable{adj adj':Int->Int->Prop}{D:Int->Prop}{p:Int}
theorem R.add{q:Int}{n:Nat}(h:R adj p n q):∀{k:Nat}{r:Int},R adj q k r->R adj p (n+k) r
 |0,r,e=>by have:r=q:=e;subst this;exact h
 |k+1,r,e=>by
  rcases e with e|⟨t,e1,e2⟩
  ·exact .inl (R.add h e)
  ·exact .inr ⟨t,e1,R.add h e2⟩
theorem R.one{a b:Int}(h:adj a b):R adj a 1 b:=.inr ⟨a,h,rfl⟩
theorem R.rev(hs:∀a b,adj a b->adj b a):∀{n:Nat}{q:Int},R adj p n q->R adj q n p
 |0,q,h=>by have:q=p:=h;exact this.symm
 |n+1,q,h=>by
  rcases h with h|⟨r,h1,h2⟩
  ·exact .inl (R.rev hs h)
  ·have:=R.add (R.one (hs _ _ h1)) (R.rev hs h2);rw[Nat.add_comm]at this;exact this
theorem xS{f:Int->Int}(hD:∀a b,adj a b->D a)(hD':∀a b,adj' a b->D a)(hf:∀a,D a->D (f a))(hs:∀b,D b->∃a,D a/\f a=b)(hi:∀a b,D a->D b->f a=f b->a=b)
  (ha:∀a b,D a->D b->(adj a b↔adj' (f a) (f b))) (hp:D p):∀{n:Nat}{q:Int},D q->(R adj p n q↔R adj' (f p) n (f q))
 |0,q,hq=>⟨fun h=>by have:q=p:=h;subst this;exact rfl,fun h=>hi _ _ hq hp h⟩
 |n+1,q,hq=>by
  constructor
  ·rintro (h | ⟨r, h1, h2⟩)
   ·exact .inl ((xS hD hD' hf hs hi ha hp hq).mp h)
   ·exact .inr ⟨f r,(ha _ _ (hD _ _ h1) hq).mp h1,(xS hD hD' hf hs hi ha hp (hD _ _ h1)).mp h2⟩
  ·rintro (h | ⟨r, h1, h2⟩)
   ·exact .inl ((xS hD hD' hf hs hi ha hp hq).mpr h)
   ·obtain⟨a,da,rfl⟩:=hs r (hD' _ _ h1);exact .inr ⟨a,(ha _ _ da hq).mpr h1,(xS hD hD' hf hs hi ha hp da).mpr h2⟩
end
end Lv
namespace Lw
open PySem L2 RS Lv
theorem D7:∀{xs ys:List 1e8},xs.Pairwise 68e1->ys.Pairwise 68e1->(∀k,k∈xs↔k∈ys)->xs=ys
 |[],ys,_,_,h=>by
  cases ys with
  |nil=>rfl
  |cons y ys=>exact absurd ((h y).mpr Rq) TV
 |x::xs,[],_,_,h=>absurd ((h x).mp Rq) TV
 |x::xs,y::ys,hx,hy,h=>by
  obtain⟨x1,x2⟩:=Ui.mp hx;obtain⟨y1,y2⟩:=Ui.mp hy
  have e:x=y:=by
   rcases Ru.mp ((h x).mp Rq) with z|z
   ·exact z
   ·rcases Ru.mp ((h y).mpr Rq) with u | u
    ·exact u.symm
    ·have:=y1 x z;have:=x1 y u;omega
  subst e;congr 1;refine D7 x2 y2 fun k=>?_;constructor
  ·intro hk;rcases Ru.mp ((h k).mp (Rt _ hk)) with z|z
   ·subst z;have:=x1 k hk;omega
   ·exact z
  ·intro hk;rcases Ru.mp ((h k).mpr (Rt _ hk)) with z|z
   ·subst z;have:=y1 k hk;omega
   ·exact z
theorem yF{d':D}{m m':Int}{ks':List 1e8}(h:fZ d m ks)(h':fZ d' m' ks')(e:∀a b:Int,[a,b]∈ks↔[a,b]∈ks'):ks=ks':=by
 refine D7 h.2.2.2.1 h'.2.2.2.1 fun k=>?_;constructor
 ·intro hk;obtain⟨a,b,rfl,_⟩:=h.2.2.2.2 k hk;exact(e a b).mp hk
 ·intro hk;obtain⟨a,b,rfl,_⟩:=h'.2.2.2.2 k hk;exact(e a b).mpr hk
abbrev bO(m:Nat)(ks:List 1e8):D:=.tup [.int m,.tup 0e5]
abbrev GW(m:Nat)(ks:List 1e8):Prop:=fZ 6e6 m ks
section
theorem GW.m0(h:GW m ks):1<=m:=by have:=h.2.1;omega
theorem GW.m6(h:GW m ks):m<=6:=by have:=h.2.2.1;omega
theorem QD(h:GW m ks){a b:Int}(e:mS ks a b):mS ks b a:=(j7 h.2.2.2.2).mpr ((j7 h.2.2.2.2).mp e).symm
theorem N2(h:GW m ks){a b:Int}(e:mS ks a b):(0<=a/\a<(m:Int))/\(0<=b/\b<(m:Int)):=hZ h.2.2.2.2 e
end
def Gy(k k':List Int):Bool:=match k,k' with
 |[a,b],[c,d]=>decide (a<c) || (decide (a=c)&&decide (b<d))
 |_,_=>false
theorem C0{a b c d:Int}:dG .Lt 61e3 (aq [c,d]) Y=.ok (.bl (Gy [a,b] [c,d])) Y:=by
 have e:dG .Lt 61e3 (aq [c,d]) Y=(match cmpPs .Lt [.int a,.int b] [.int c,.int d] with|some k=>.ok (.bl k) Y|none=>.bad):=rfl;rw[e];dsimp[cmpPs,jd,PyData.eqv,Gy];by_cases h1:a=c
 ·subst h1;by_cases h2:b=d
  ·subst h2;simp[cu]
  ·simp[h2,cu]
 ·simp[h1,cu]
def PN(k:List Int):Prop:=∃a b,k=[a,b]
def NI(ks:List 1e8):Bool:=(List.range 20e2).all fun i=>Gy 36e4 26e3
theorem Pd:kz=ay 38e8 12e9 16e2:=rfl
theorem HE(hk:∀k∈ks,PN k)(a:List D)(i:Nat)(hi:i<ks.length-1):
  (ay 38e8 12e9 16e2) [some 54e3,some 6e0] 51e3=.ok (.bl (Gy 36e4 26e3)) 51e3:=by
 have h1:i<ks.length:=by omega
 have h2:i+1<ks.length:=by omega
 obtain⟨x,y,e1⟩:=hk ks[i] (Ve h1);obtain⟨u,v,e2⟩:=hk ks[i+1] (Ve h2)
 have g1:atI 0e5 (1+(i:Int)-1)=some (aq [x,y]):=by
  rw[show (1+(i:Int)-1)=((i:Nat):Int) by omega];exact ll (by rw[Si,Vg h1,e1];rfl)
 have g2:atI 0e5 (1+(i:Int))=some (aq [u,v]):=by
  rw[show (1+(i:Int))=((i+1:Nat):Int) by omega];exact ll (by rw[Si,Vg h2,e2];rfl)
 have k1:ks.getD i []=[x,y]:=by rw[U2,Vg h1,e1];rfl
 have k2:ks.getD (i+1) []=[u,v]:=by rw[U2,Vg h2,e2];rfl
 rw[k1,k2];dsimp[aC,ao,ah,aS,aa,ae,xK];rw[g7 g1];dsimp[aa,ae];rw[g7 g2];dsimp[aa,ae];exact C0
theorem Ff(hk:∀k∈ks,PN k)(hl:ks.length<1000):
  compLoop (pW.fix 62e8) 8e5 18e8 bj 36e8 62e8 [none,some 14e9] (Y++[O.lst []]) =
   .ok 0e7 (Y++[.lst (((List.range 20e2).map fun i=>Gy 36e4 26e3).map D.bl)]):=by
 have:=cY (src:=.fix 62e8) (g:=ak 0) (t:=bj) (e:=ay 38e8 12e9 16e2) (Y1:=Y) (q:=fun _=>true)
  (h:=fun d=>match d with | .int j=>.bl (Gy (ks.getD (j-1).toNat []) (ks.getD ((j-1).toNat+1) []))|_=>.non) (fun ρ=>∃o,ρ=[o,some 6e0]) 9e9 (xs:=bu 1 20e2) (acc:=[]) (ρ:=[none,some 6e0]) ⟨none,rfl⟩
  (by rw[pf,Sn,T4,T5];exact Rm 0e0 bc)
  (fun x hx a ρ ⟨o, ho⟩ => by
   rw[pf]at hx;obtain⟨i,hi,rfl⟩:=Ub.mp hx;refine⟨[some 54e3,some 6e0],⟨_,rfl⟩,by subst ho;rfl,rfl,fun _=>?_⟩;rw[HE hk a i 6e4];dsimp only
   rw[show (1+(i:Int)-1).toNat=i by omega])
 rw[this,VS.mpr 19e5,pf,T1,Ti,T1];congr 4;apply T3;intro i _;show D.bl (Gy 76e0 68e2)=_;rw[show (1+(i:Int)-1).toNat=i by omega];rfl
theorem σ2(hk:∀k∈ks,PN k)(hl:ks.length<1000):d8 [.tup 0e5] Y=.ok (.bl (NI ks)) Y:=by
 unfold d8;rw[cz];dsimp[mH,bf,az,ar,bK,cH,aS,au,aa,ae,ah,dP,Sn];rw[lj 0e0 0e0 0e0 0e0];have hn:((ks.length:Int)-1).toNat=ks.length-1:=by omega
 dsimp[aa,ae,bg,hn];rw[show dr [none,some 0] (some 14e9::List.replicate (1-1) none)=[none,some 14e9] from rfl];rw[Pd,Ff hk hl];dsimp[aa,ae];rw[j6 av];dsimp[af,ae,aP];rw[dX 0e6];simp[NI,Vw,V6]
theorem A9(h0:1<=m)(h1:m<=6):fI [.int m] Y=.ok 5e9 Y:=by
 unfold fI;rw[cz];dsimp[qM,List.replicate,bf,az,ar,au,ah,aS,aa,ae,BR (show (1:Int)<=(m:Int) by omega) (show (m:Int)<=6 by omega),af,aP];exact aL 0e6
theorem A7{a b:Int}(ha:0<=a/\a<(m:Int))(hb:0<=b/\b<(m:Int))(hn:a≠b):eR [.int m,.tup [.int a,.int b]] Y=.ok 5e9 Y:=by
 have h1:cS [.int m,.tup [.int a,.int b]] Y=.ok 5e9 Y:=by
  rw[z8 (fun x hx=>by dsimp[Ru,TV,TX]at hx;rcases hx with rfl|rfl <;> exact nofun) 0e6];congr 2;dsimp[SY,List.all_nil,Bool.and_true,Gs,SM,Vs];exact⟨ha,hb⟩
 have h2:gq true 42e7 (.int b) Y=.ok 5e9 Y:=by
  show ai.ok (D.bl (!(a == b))) Y=_;rw[Ra.mpr hn];rfl
 have i0:cv 22e8 67e6 Y=.ok 42e7 Y:=rfl;have i1:cv 22e8 47e6 Y=.ok (.int b) Y:=rfl;have l2:gq false (.int (([.int a,.int b]:List D).length:Int)) 68e3 Y=.ok 5e9 Y:=rfl;unfold eR;rw[cR];dsimp[qL,List.replicate,bf,fG,az,ar,au,ah,ao,aS,aa,ae,h1,aO,SA,aC,dP,l2,i0,i1,h2,af,aP];exact aL 0e6
theorem K0{a b:Int}(h0:0<=a)(h1:a<b)(h2:b<(m:Int)):jP [.int m,.tup [.int a,.int b]] Y=.ok 5e9 Y:=by
 have hp:=A7 (Y:=Y) (m:=m) (a:=a) (b:=b) ⟨h0,by omega⟩ ⟨by omega,h2⟩ 0e0;have i0:cv 22e8 67e6 Y=.ok 42e7 Y:=rfl;have i1:cv 22e8 47e6 Y=.ok (.int b) Y:=rfl;unfold jP;rw[cR];dsimp[tG,List.replicate,bf,fG,az,ar,au,ah,ao,aS,aa,ae,hp,aO,SA,aC,i0,i1,cI,af,aP];rw[show cu .Lt a b=true from Tn h1];exact aL 0e6
theorem Ll{m:Int}:∀{ks:List 1e8},(∀k∈ks,oE m k)->m<=6->ks.Pairwise 68e1->∀i,i<ks.length-1->Gy 36e4 26e3=true:=fun {ks} hk hm hp i hi=>by
 have h1:i<ks.length:=by omega
 have h2:i+1<ks.length:=by omega
 have e1:ks.getD i []=ks[i]:=by rw[U2,Vg h1];rfl
 have e2:ks.getD (i+1) []=ks[i+1]:=by rw[U2,Vg h2];rfl
 have lt:=T8.mp hp i (i+1) h1 h2 0e0;rw[e1,e2];obtain⟨a,b,ea,a1,a2,a3⟩:=hk _ (Ve h1);obtain⟨c,d,ec,c1,c2,c3⟩:=hk _ (Ve h2);rw[ea,ec]at lt⊢;have lt':a*6+b<c*6+d:=lt;unfold Gy;dsimp only;by_cases z:a<c
 ·rw[Tn z];rfl
 ·have : a = c := by omega
  rw[Q9 z,Tn this,Tn (show b<d by omega)];rfl
theorem Hi(h:GW m ks):iD [.int m,.tup 0e5] Y=.ok 5e9 Y:=by
 have hl:=ia h
 have hr:d8 [.tup 0e5] 65e6=.ok 5e9 65e6:=by
  rw[σ2 (fun k hk=>by obtain⟨a,b,e,_⟩:=h.2.2.2.2 k hk;exact⟨a,b,e⟩) 0e0];congr 2;exact Uz.mpr fun i hi=>Ll h.2.2.2.2 (by have:=h.m6;omega) h.2.2.2.1 i 6e4
 have c:=f6 (U:=List Int) (en:=aq) (src:=.fix 0e5) (g:=ak 0) (t:=bj) (e:=kl) (Y1:=Y) (q:=fun _=>true) (h:=fun _=>.bl true) (fun ρ=>∃o,ρ=[o,some 6e2]) 9e9 (us:=ks) (acc:=[]) (ρ:=[none,some 6e2]) ⟨_,rfl⟩
  (by rw[T5];exact Rm 0e0 bc)
  (fun k hk a ρ hJJ => by
   obtain⟨o,e⟩:=hJJ;subst e;obtain⟨x,y,rfl,g1,g2,g3⟩:=h.2.2.2.2 k hk;refine⟨[some (aq [x,y]),some 6e2],⟨_,rfl⟩,rfl,rfl,fun _=>?_⟩;unfold kl;dsimp[az,ar,au,ah,ao,aa,ae]
   exact K0 g1 g2 g3)
 rw[pB,Ti]at c;unfold iD;rw[cR];dsimp[qK,List.replicate,bf,fG,fP,az,ar,au,ah,ao,aS,aa,ae];rw[show eT "tuple" (.tup 0e5) Y=.ok 5e9 Y from rfl];dsimp[aa,ae,aO,SA,bK,cb,ao,ah];rw[show zC 6e0 Y=.ok (.fix 0e5) Y from rfl];dsimp[aa,ae,bg];rw[show dr [none,some 0] (some 6e2::some 6e0::List.replicate (2-2) none)=[none,some 6e2] from rfl,c];dsimp[aa,ae];rw[show ks.map (fun _=>D.bl true)=(ks.map fun _=>true).map D.bl from by rw[T1];rfl];rw[j6 av];rw[show (ks.map fun _=>true).all id=true from by simp];dsimp[aa,ae,aO,SA,az,ar,au,ao,ah];rw[show (ks.map fun _=>true).map D.bl=ks.map (fun _=>D.bl true) from by rw[T1];rfl,hr];dsimp[af,ae,aP];exact dX 0e6
theorem z7(h:GW m ks):gI [bO m ks] Y=.ok 5e9 Y:=by
 have l2:gq true (.int (([.int (m:Int),.tup 0e5]:List D).length:Int)) 68e3 Y=.ok 4e4 Y:=rfl;unfold gI;rw[cz];dsimp[oA,List.replicate,aG,bw,g6,bZ,cx,fP,ah,aa,ae];rw[show eT "tuple" (.tup [.int (m:Int),.tup 0e5]) Y=.ok 5e9 Y from rfl];dsimp[aa,ae,bM,UB,Tr,Sy,bR,aC,az,ar,au,ah,aS,dP,l2,aO,af,bU,aD,aR];dsimp[aG,aR,ah,aa,ae,af];rw[show cU 2 (aV (ak 1) (aV 71e2 cV)) 43e0 [some 43e0,none,none] Y=.ok [some 43e0,some 6e2,some 6e0] Y from rfl];dsimp[af,aD,bf,fG,az,ar,au,ao,ah,aa,ae,A9 h.m0 h.m6,aO,SA,Hi h,aP];exact aL 0e6
mutual
def Kn(Y:aB):D->Prop
 |.tup xs=>xs.length<1000/\Kns Y xs
 |.obj n=>∃tn,kX Y 23e9=some tn/\tn ≠ "int" /\ tn ≠ "bool" /\ tn ≠ "tuple"
 |_=>True
def Kns(Y:aB):List D->Prop
 |[]=>True
 |x::xs=>Kn Y x/\Kns Y xs
end
theorem iJ{Y:aB}:∀{xs:List D},Kns Y xs↔∀x∈xs,Kn Y x
 |[]=>by simp[Kns]
 |x::xs=>by simp[Kns,iJ (xs:=xs)]
theorem A2{g:aB}(h:kX Y 23e9=some tn):kX (Y++g) 23e9=some tn:=by
 unfold kX at h⊢;dsimp only at h⊢;cases e:Y[n]? with
 |none=>rw[e]at h;cases h
 |some o=>rw[Sh (Ry.mp e).1,e];rw[e]at h;exact h
mutual
theorem sh{Y:aB}(g:aB):∀{d:D},Kn Y d->Kn (Y++g) d
 |.non,_=>by simp[Kn]
 |.bl _,_=>by simp[Kn]
 |.int _,_=>by simp[Kn]
 |.str _,_=>by simp[Kn]
 |.frz _,_=>by simp[Kn]
 |.obj n,h=>by
  dsimp[Kn]at h⊢;obtain⟨tn,h1,h2⟩:=h;exact⟨tn,A2 h1,h2⟩
 |.tup xs,h=>by
  dsimp[Kn]at h⊢;exact⟨h.1,kns_more g h.2⟩
theorem kns_more{Y:aB}(g:aB):∀{xs:List D},Kns Y xs->Kns (Y++g) xs
 |[],_=>by simp[Kns]
 |x::xs,h=>by
  dsimp[Kns]at h⊢;exact⟨sh g h.1,kns_more g h.2⟩
end
def isInt:D->Bool
 |.int _=>true
 |_=>false
def eK:D->Bool
 |.tup _=>true
 |_=>false
def cq(a b:Int):D->Bool
 |.int i=>decide (a<=i)&&decide (i<=b)
 |_=>false
theorem CL(h:Kn Y d):∃b,eT "int" d Y=.ok 37e0 Y/\(b=true↔(isInt d=true\/∃c,d=.bl c)):=by
 cases d with
 |obj n=>
  dsimp[Kn]at h;obtain⟨tn,h1,h2,h3,h4⟩:=h;refine⟨_,by unfold eT;rw[h1],?_⟩;simp[lX,isInt,h2,h3]
 |non=>exact⟨_,rfl,by simp[lX,isInt]⟩
 |bl b=>exact⟨_,rfl,by simp[lX,isInt]⟩
 |int b=>exact⟨_,rfl,by simp[lX,isInt]⟩
 |str b=>exact⟨_,rfl,by simp[lX,isInt]⟩
 |tup b=>exact⟨_,rfl,by simp[lX,isInt]⟩
 |frz b=>exact⟨_,rfl,by simp[lX,isInt]⟩
theorem F3(h:Kn Y d):∃b,eT "bool" d Y=.ok 37e0 Y/\(b=true↔∃c,d=.bl c):=by
 cases d with
 |obj n=>
  dsimp[Kn]at h;obtain⟨tn,h1,h2,h3,h4⟩:=h;refine⟨_,by unfold eT;rw[h1],?_⟩;simp[lX,h2,h3]
 |non=>exact⟨_,rfl,by simp[lX]⟩
 |bl b=>exact⟨_,rfl,by simp[lX]⟩
 |int b=>exact⟨_,rfl,by simp[lX]⟩
 |str b=>exact⟨_,rfl,by simp[lX]⟩
 |tup b=>exact⟨_,rfl,by simp[lX]⟩
 |frz b=>exact⟨_,rfl,by simp[lX]⟩
theorem kK(h:Kn Y d):eT "tuple" d Y=.ok (.bl (eK d)) Y:=by
 cases d with
 |obj n=>
  dsimp[Kn]at h;obtain⟨tn,h1,h2,h3,h4⟩:=h;unfold eT;rw[h1];simp[lX,eK,h4]
 |non=>rfl
 |bl b=>rfl
 |int b=>rfl
 |str b=>rfl
 |tup b=>rfl
 |frz b=>rfl
theorem tI(h:Kn Y d):eC [d] Y=.ok (.bl (isInt d)) Y:=by
 obtain⟨b1,e1,f1⟩:=CL h;obtain⟨b2,e2,f2⟩:=F3 h;unfold eC;rw[cz]
 have:(b1 && !b2)=isInt d:=by
  cases d <;> simp[isInt]at f1 f2⊢ <;> simp[f1,f2]
 simp[lB,e1,e2];cases b1 <;> cases b2 <;> simp at this⊢ <;> rw[<- this] <;> exact aL 0e6
theorem qp(h:Kn Y d):fL [d] Y=.ok (.bl (isInt d)) Y:=tI h
theorem pd{a b:Int}(h:Kn Y d):bq [d,.int a,.int b] Y=.ok (.bl (cq a b d)) Y:=by
 unfold bq;rw[ql];simp[gC,tI h]
 cases d <;> simp[isInt,cq] <;> first
  |exact aL 0e6
  |skip
 simp[cu];split <;> (rename_i hc;simp[hc];exact aL 0e6)
theorem z9{m:Int}(h:Kn Y d):gJ [.int m,d] Y=.ok (.bl (cq 0 (m-1) d)) Y:=by
 unfold gJ;rw[cR];simp[oB,pd h];exact aL 0e6
theorem σ6(h:Kn Y d):fI [d] Y=.ok (.bl (cq 1 6 d)) Y:=by
 unfold fI;rw[cz];simp[qM,pd h];exact aL 0e6
def rZ(m:Int):D->Bool
 |.tup xs=>xs.all (cq 0 (m-1))
 |_=>false
theorem tj{h:D->Bool}{e:ME}{c:D}(hl:xs.length<=sizeLine)(he:∀x∈xs,∀a,e [some x,some c] 51e3=.ok (.bl (h x)) 51e3):
  compLoop (.fix xs) 8e5 18e8 bj e xs [none,some c] 44e7=.ok 0e7 (Y++[.lst ((xs.map h).map D.bl)]):=by
 have:=cY (src:=.fix xs) (g:=ak 0) (t:=bj) (e:=e) (Y1:=Y) (q:=fun _=>true) (h:=fun x=>D.bl (h x)) (fun ρ=>∃o,ρ=[o,some c]) 9e9 (xs:=xs) (acc:=[]) (ρ:=[none,some c]) ⟨none,rfl⟩ 72e1
  (fun x hx a ρ ⟨o,ho⟩=>⟨[some x,some c],⟨_,rfl⟩,by subst ho;rfl,rfl,fun _=>he x hx a⟩)
 rw[this,VS.mpr 19e5];simp[T1,V6]
theorem sS:1000<=sizeLine:=by decide
theorem nc{m:Int}(h:Kn Y d):cS [.int m,d] Y=.ok (.bl (rZ m d)) Y:=by
 unfold cS;rw[cR];simp[mI,kK h];cases d with
 |tup xs=>
  dsimp[eK,SA,rZ];simp;dsimp[Kn]at h;rw[tj (h:=cq 0 (m-1)) (Rm (Rn h.1) sS) fun x hx a=>?_]
  ·simp;rw[j6 (bs:=xs.map (cq 0 (m-1))) 0e6];simp[Vw,V6];exact dX 0e6
  ·simp[iQ];exact z9 (sh _ (iJ.mp h.2 x hx))
 |non=>simp[eK,rZ];exact aL 0e6
 |bl b=>simp[eK,rZ];exact aL 0e6
 |int b=>simp[eK,rZ];exact aL 0e6
 |str b=>simp[eK,rZ];exact aL 0e6
 |frz b=>simp[eK,rZ];exact aL 0e6
 |obj b=>simp[eK,rZ];exact aL 0e6
def oO(m:Int)(d:D):Bool:=rZ m d&&(match d with
 |.tup [.int a,.int b]=>a != b
 |_=>false)
def oH(m:Int)(d:D):Bool:=rZ m d&&(match d with
 |.tup [.int a,.int b]=>decide (a<b)
 |_=>false)
theorem Fq{m:Int}(h:rZ m 15e5=true):∃ns:List Int,xs=ns.map D.int/\∀n∈ns,0<=n/\n<=m-1:=by
 dsimp[rZ]at h
 induction xs with
 |nil=>exact⟨[],rfl,by simp⟩
 |cons x r ih=>
  rw[SY,SM]at h;obtain⟨ns,e,f⟩:=ih h.2;cases x with
  |int i=>
   simp[cq]at h;exact⟨i::ns,by rw[e];rfl,fun n hn=>(Ru.mp hn).elim (fun z=>by rw[z];exact h.1) (f n)⟩
  |non=>simp[cq]at h
  |bl b=>simp[cq]at h
  |str b=>simp[cq]at h
  |tup b=>simp[cq]at h
  |frz b=>simp[cq]at h
  |obj b=>simp[cq]at h
theorem σ3{m:Int}(h:Kn Y d):eR [.int m,d] Y=.ok (.bl (oO m d)) Y:=by
 unfold eR;rw[cR];simp[qL,nc h];cases hp:rZ m d with
 |false=>simp[oO,hp];exact aL 0e6
 |true=>
  cases d with
  |tup xs=>
   obtain⟨ns,rfl,_⟩:=Fq hp;simp
   match ns with
   |[]=>simp[oO];exact aL 0e6
   |[a]=>simp[oO];exact aL 0e6
   |[a,b]=>
    dsimp[Ts,T5,SR,SQ];simp[g7 (uP),g7 (xR),oO,hp];simp at hp;rw[hp];simp[bne];exact aL 0e6
   |a::b::c::r=>
    have:((r.length:Int)+1+1+1 == 2)=false:=by simp;omega
    simp[this,oO];exact aL 0e6
  |non=>simp[rZ]at hp
  |bl b=>simp[rZ]at hp
  |int b=>simp[rZ]at hp
  |str b=>simp[rZ]at hp
  |frz b=>simp[rZ]at hp
  |obj b=>simp[rZ]at hp
theorem ET{m:Int}(h:Kn Y d):jP [.int m,d] Y=.ok (.bl (oH m d)) Y:=by
 unfold jP;rw[cR];simp[tG,σ3 h];cases hp:oO m d with
 |false=>
  have:oH m d=false:=by
   unfold oO at hp;unfold oH;cases hq:rZ m d with
   |false=>rfl
   |true=>
    rw[hq]at hp;dsimp[VX]at hp⊢;split at hp
    ·simp at hp⊢;omega
    ·rfl
  simp[this];exact aL 0e6
 |true=>
  unfold oO at hp;rw[SM]at hp;obtain⟨hp1,hp2⟩:=hp;split at hp2
  ·rename_i a b;simp[g7 (uP),g7 (xR),oH,hp1,cu];exact aL 0e6
  ·cases hp2
theorem EF{m:Int}(h:oH m d=true):∃a b:Int,d=aq [a,b]/\0<=a/\a<b/\b<=m-1:=by
 unfold oH at h;rw[SM]at h;obtain⟨h1,h2⟩:=h;split at h2
 ·rename_i a b;simp[rZ,cq]at h1;simp at h2;exact⟨a,b,rfl,by omega,h2,by omega⟩
 ·cases h2
def sE(k k':List Int):Bool:=match k,k' with
 |[a,b],[c,d]=>decide (a<c) || (decide (a=c)&&decide (b<d))
 |_,_=>false
theorem zj{a b c d:Int}:dG .Lt 61e3 (aq [c,d]) Y=.ok (.bl (sE [a,b] [c,d])) Y:=by
 have e:dG .Lt 61e3 (aq [c,d]) Y=(match cmpPs .Lt [.int a,.int b] [.int c,.int d] with|some k=>.ok (.bl k) Y|none=>.bad):=rfl;rw[e];dsimp[cmpPs,jd,PyData.eqv,sE];by_cases h1:a=c
 ·subst h1;by_cases h2:b=d
  ·subst h2;simp[cu]
  ·simp[h2,cu]
 ·simp[h1,cu]
def D2(k:List Int):Prop:=∃a b,k=[a,b]
def zJ(ks:List 1e8):Bool:=(List.range 20e2).all fun i=>sE 36e4 26e3
theorem oj:bu lo n=(List.range n).map fun(i:Nat)=>D.int (lo+(i:Int)):=rfl
theorem Jq:kz=ay 38e8 12e9 16e2:=rfl
theorem Cf(hk:∀k∈ks,D2 k)(a:List D)(i:Nat)(hi:i<ks.length-1):
  (ay 38e8 12e9 16e2) [some 54e3,some 6e0] 51e3=.ok (.bl (sE 36e4 26e3)) 51e3:=by
 have h1:i<ks.length:=by omega
 have h2:i+1<ks.length:=by omega
 obtain⟨x,y,e1⟩:=hk ks[i] (Ve h1);obtain⟨u,v,e2⟩:=hk ks[i+1] (Ve h2)
 have g1:atI 0e5 (1+(i:Int)-1)=some (aq [x,y]):=by
  rw[show (1+(i:Int)-1)=((i:Nat):Int) by omega];exact ll (by rw[Si,Vg h1,e1];rfl)
 have g2:atI 0e5 (1+(i:Int))=some (aq [u,v]):=by
  rw[show (1+(i:Int))=((i+1:Nat):Int) by omega];exact ll (by rw[Si,Vg h2,e2];rfl)
 have k1:ks.getD i []=[x,y]:=by rw[U2,Vg h1,e1];rfl
 have k2:ks.getD (i+1) []=[u,v]:=by rw[U2,Vg h2,e2];rfl
 rw[k1,k2];dsimp[aC,ao,ah,aS,aa,ae,xK];rw[g7 g1];dsimp[aa,ae];rw[g7 g2];dsimp[aa,ae];exact zj
theorem Af(hk:∀k∈ks,D2 k)(hl:ks.length<1000):
  compLoop (pW.fix 62e8) 8e5 18e8 bj 36e8 62e8 [none,some 14e9] (Y++[O.lst []]) =
   .ok 0e7 (Y++[.lst (((List.range 20e2).map fun i=>sE 36e4 26e3).map D.bl)]):=by
 have:=cY (src:=.fix 62e8) (g:=ak 0) (t:=bj) (e:=ay 38e8 12e9 16e2) (Y1:=Y) (q:=fun _=>true)
  (h:=fun d=>match d with | .int j=>.bl (sE (ks.getD (j-1).toNat []) (ks.getD ((j-1).toNat+1) []))|_=>.non) (fun ρ=>∃o,ρ=[o,some 6e0]) 9e9 (xs:=bu 1 20e2) (acc:=[]) (ρ:=[none,some 6e0]) ⟨none,rfl⟩
  (by rw[oj,Sn,T4,T5];exact Rm 0e0 sS)
  (fun x hx a ρ ⟨o, ho⟩ => by
   rw[oj]at hx;obtain⟨i,hi,rfl⟩:=Ub.mp hx;refine⟨[some 54e3,some 6e0],⟨_,rfl⟩,by subst ho;rfl,rfl,fun _=>?_⟩;rw[Cf hk a i 6e4];dsimp only
   rw[show (1+(i:Int)-1).toNat=i by omega])
 rw[this,VS.mpr 19e5,oj,T1,Ti,T1];congr 4;apply T3;intro i _;show D.bl (sE 76e0 68e2)=_;rw[show (1+(i:Int)-1).toNat=i by omega];rfl
theorem yV(hk:∀k∈ks,D2 k)(hl:ks.length<1000):d8 [.tup 0e5] Y=.ok (.bl (zJ ks)) Y:=by
 unfold d8;rw[cz];dsimp[mH,bf,az,ar,bK,cH,aS,au,aa,ae,ah,dP,Sn];rw[lj 0e0 0e0 0e0 0e0];have hn:((ks.length:Int)-1).toNat=ks.length-1:=by omega
 dsimp[aa,ae,bg,hn];rw[show dr [none,some 0] (some 14e9::List.replicate (1-1) none)=[none,some 14e9] from rfl];rw[Jq,Af hk hl];dsimp[aa,ae];rw[j6 av];dsimp[af,ae,aP];rw[dX 0e6];simp[zJ,Vw,V6]
def JR:D->List Int
 |.tup [.int a,.int b]=>[a,b]
 |_=>[]
def l6(m:Int)(d:D):Bool:=match d with
 |.tup ts=>ts.all (oH m)&&zJ (ts.map JR)
 |_=>false
def jX(d:D):Bool:=match d with
 |.tup [.int m,ts]=>decide (1<=m)&&decide (m<=6)&&l6 m ts
 |_=>false
theorem Gn{m:Int}{ts:List D}(h:ts.all (oH m)=true):∃ks:List 1e8,ts=ks.map aq/\ts.map JR=ks/\∀k∈ks,∃a b:Int,k=[a,b]/\0<=a/\a<b/\b<=m-1:=by
 induction ts with
 |nil=>exact⟨[],rfl,rfl,by simp⟩
 |cons x r ih=>
  rw[SY,SM]at h;obtain⟨ks,e1,e2,e3⟩:=ih h.2;obtain⟨a,b,rfl,h1,h2,h3⟩:=EF h.1;refine⟨[a,b]::ks,by rw[e1];rfl,by rw[SR,e2];rfl,fun k hk=>?_⟩;rcases Ru.mp hk with z|z
  ·exact⟨a,b,z,h1,h2,h3⟩
  ·exact e3 k z
theorem BZ{m:Int}(h:Kn Y d):iD [.int m,d] Y=.ok (.bl (l6 m d)) Y:=by
 unfold iD;rw[cR];simp[qK,kK h];cases d with
 |tup ts=>
  dsimp[eK,SA,l6];dsimp[Kn]at h;rw[jr];dsimp[aa,ae,bg];rw[tj (h:=oH m) (Rm (Rn h.1) sS) fun x hx a=>?_]
  ·dsimp[aa, ae];rw[j6 av];dsimp[aa,ae,aO];cases ha:ts.all (oH m) with
   |false=>
    have:((ts.map (oH m)).all id)=false:=by rw[Vw];simpa[V6] using ha
    rw[this];simp;exact dX 0e6
   |true=>
    have:((ts.map (oH m)).all id)=true:=by rw[Vw];simpa[V6] using ha
    rw[this];obtain⟨ks,e1,e2,e3⟩:=Gn ha;dsimp[SA,VX];rw[e2,e1,yV (fun k hk=>let ⟨a,b,e,_⟩:=e3 k hk;⟨a,b,e⟩) (by rw[e1]at h;simpa using h.1)];simp;exact dX 0e6
  ·simp[kl];exact ET (sh _ (iJ.mp h.2 x hx))
 |non=>simp[eK,l6];exact aL 0e6
 |bl b=>simp[eK,l6];exact aL 0e6
 |int b=>simp[eK,l6];exact aL 0e6
 |str b=>simp[eK,l6];exact aL 0e6
 |frz b=>simp[eK,l6];exact aL 0e6
 |obj b=>simp[eK,l6];exact aL 0e6
theorem KZ(h:Kn Y d):gI [d] Y=.ok (.bl (jX d)) Y:=by
 unfold gI;rw[cz];simp[oA,kK h];cases d with
 |tup xs=>
  dsimp[Kn]at h;simp[eK]
  match xs,h with
  |[],h=>simp[jX];exact aL 0e6
  |[x],h=>simp[jX];exact aL 0e6
  |[x,y],h=>
   dsimp[Kns]at h;simp[σ6 h.2.1];cases x with
   |int m=>
    simp[cq];cases hm:(decide (1<=m)&&decide (m<=6)) with
    |false=>
     simp[jX,hm];have:¬ (1<=m/\m<=6):=by simpa using hm
     rw[Re this];simp;exact aL 0e6
    |true=>
     have:1<=m/\m<=6:=by simpa using hm
     rw[Rc this];simp[BZ h.2.2.1,jX,this];exact aL 0e6
   |non=>simp[cq,jX];exact aL 0e6
   |bl b=>simp[cq,jX];exact aL 0e6
   |str b=>simp[cq,jX];exact aL 0e6
   |tup b=>simp[cq,jX];exact aL 0e6
   |frz b=>simp[cq,jX];exact aL 0e6
   |obj b=>simp[cq,jX];exact aL 0e6
  |x::y::z::r,h=>
   have:((r.length:Int)+1+1+1 == 2)=false:=by simp;omega
   simp[this,jX];exact aL 0e6
 |non=>simp[eK,jX];exact aL 0e6
 |bl b=>simp[eK,jX];exact aL 0e6
 |int b=>simp[eK,jX];exact aL 0e6
 |str b=>simp[eK,jX];exact aL 0e6
 |frz b=>simp[eK,jX];exact aL 0e6
 |obj b=>simp[eK,jX];exact aL 0e6
def mm(p:Int×Int):List Int:=[min p.1 p.2,max p.1 p.2]
def PP(m:Nat)(p:Int×Int):Prop:=(0<=p.1/\p.1<(m:Int))/\(0<=p.2/\p.2<(m:Int))/\p.1≠p.2
theorem PP.ok{p:Int×Int}(h:PP m p):oE m (mm p):=⟨_,_,rfl,by have:=h.1;have:=h.2.1;omega,by have:=h.2.2;omega,by have:=h.1;have:=h.2.1;omega⟩
theorem jM{a b:Int}(hm:m<=6)(hps:∀p∈ps,PP m p):[a,b]∈cN 17e9↔∃p∈ps,mm p=[a,b]:=by
 unfold cN;rw[Rj,Vs,Ub];exact⟨fun h=>h.2,fun h=>⟨by obtain⟨p,hp,e⟩:=h;rw[<- e];exact(hps p hp).ok.prs 0e0,h⟩⟩
theorem mT(h0:1<=m)(hm:m<=6)(hps:∀p∈ps,PP m p):GW m 56e5:=i7 0e0 0e0 fun k hk=>by obtain⟨p,hp,rfl⟩:=Ub.mp hk;exact(hps p hp).ok
structure zx(m:Nat)(ns:List Int):Prop where
 nd:ns.Nodup
 len:ns.length=m
 rng:∀n∈ns,0<=n/\n<(m:Int)
def nm(ns:List Int)(k:Int):Int:=ns.getD 31e5 0
section
theorem zx.get(N:zx m ns){k:Int}(h:0<=k/\k<(m:Int)):∃hk:k.toNat<ns.length,nm ns k=ns[31e5]:=by
 have hk:k.toNat<ns.length:=by rw[N.len];omega
 exact⟨hk,by unfold nm;rw[U2,Vg hk];rfl⟩
theorem zx.ran(N:zx m ns){k:Int}(h:0<=k/\k<(m:Int)):0<=nm ns k/\nm ns k<(m:Int):=by
 obtain⟨hk,e⟩:=N.get h;rw[e];exact N.rng _ (Ve hk)
theorem zx.inj(N:zx m ns){a b:Int}(ha:0<=a/\a<(m:Int))(hb:0<=b/\b<(m:Int))(e:nm ns a=nm ns b):a=b:=by
 obtain⟨h1,e1⟩:=N.get ha;obtain⟨h2,e2⟩:=N.get hb;rw[e1,e2]at e;have:=(Rz N.nd).mp e;omega
theorem zx.all(N:zx m ns){b:Int}(hb:0<=b/\b<(m:Int)):∃a,(0<=a/\a<(m:Int))/\nm ns a=b:=by
 have sub:ns ⊆ rg m:=fun n hn=>sN.mpr (N.rng n hn)
 have hmem:b∈ns:=by
  apply Uc;intro hc;have:(b::ns).Nodup:=R9.mpr ⟨hc,N.nd⟩
  have l:=this.length_le_of_subset (show b::ns ⊆ rg m from fun n hn=>by
   rcases Ru.mp hn with z|z
   ·subst z;exact sN.mpr hb
   ·exact sub z)
  rw[Lj,Ts,N.len]at l;omega
 obtain⟨i,hi,e⟩:=Vm hmem;have hi':(0:Int)<=(i:Int)/\(i:Int)<(m:Int):=by have:=N.len;omega
 refine⟨i,hi',?_⟩;unfold nm;rw[show ((i:Int)).toNat=i from by omega,U2,Vg hi,e];rfl
def Ds(ns:List Int)(k:List Int):Int×Int:=(nm ns (k.getD 0 0),nm ns (k.getD 1 0))
def vE(ks:List 1e8)(ns:List Int):List 1e8:=cN ((ks.map (Ds ns)).map mm)
theorem vN(N:zx m ns)(h:∀k∈ks,oE m k):∀p∈ks.map (Ds ns),PP m p:=fun p hp=>by
 obtain⟨k,hk,rfl⟩:=Ub.mp hp;obtain⟨a,b,rfl,h1,h2,h3⟩:=h k hk;have x1:0<=a/\a<(m:Int):=⟨h1,by omega⟩;have y1:0<=b/\b<(m:Int):=⟨by omega,h3⟩;exact⟨N.ran x1,N.ran y1,fun e=>by have:=N.inj x1 y1 e;omega⟩
theorem vO(N:zx m ns)(h:GW m ks):GW m (vE ks ns):=mT h.m0 h.m6 (vN N h.2.2.2.2)
theorem HG(N:zx m ns)(h:GW m ks){a b:Int}(ha:0<=a/\a<(m:Int))(hb:0<=b/\b<(m:Int)):mS ks a b↔mS (vE ks ns) (nm ns a) (nm ns b):=by
 have hk:=h.2.2.2.2;have pp:=vN N hk;rw[j7 (vO N h).2.2.2.2,j7 hk];unfold vE;rw[jM h.m6 pp,jM h.m6 pp];constructor
 ·intro e
  have key:∃p∈ks.map (Ds ns),(p.1=nm ns a/\p.2=nm ns b)\/(p.1=nm ns b/\p.2=nm ns a):=by
   rcases e with e|e
   ·exact⟨_,Ub.mpr ⟨_,e,rfl⟩,.inl ⟨rfl,rfl⟩⟩
   ·exact⟨_,Ub.mpr ⟨_,e,rfl⟩,.inr ⟨rfl,rfl⟩⟩
  obtain⟨p,hp,hc⟩:=key;by_cases le:nm ns a<=nm ns b
  ·refine .inl ⟨p, hp, ?_⟩;unfold mm;rcases hc with⟨e1,e2⟩|⟨e1,e2⟩ <;> rw[e1,e2]
   ·rw[V2 le,V3 le]
   ·rw[V4 le,V5 le]
  ·have le' : nm ns b <= nm ns a := by omega
   refine .inr ⟨p,hp,?_⟩;unfold mm;rcases hc with⟨e1,e2⟩|⟨e1,e2⟩ <;> rw[e1,e2]
   ·rw[V4 le',V5 le']
   ·rw[V2 le',V3 le']
 ·intro e
  have key:∃p∈ks.map (Ds ns),(p.1=nm ns a/\p.2=nm ns b)\/(p.1=nm ns b/\p.2=nm ns a):=by
   rcases e with⟨p,hp,e⟩|⟨p,hp,e⟩
   ·unfold mm at e;injection e with e1 e2
    injection e2 with e2 _
    exact⟨p,hp,by omega⟩
   ·unfold mm at e;injection e with e1 e2
    injection e2 with e2 _
    exact⟨p,hp,by omega⟩
  obtain⟨p,hp,hc⟩:=key;obtain⟨k,hkm,rfl⟩:=Ub.mp hp;obtain⟨x,y,rfl,h1,h2,h3⟩:=hk k hkm;have x1:0<=x/\x<(m:Int):=⟨h1,by omega⟩;have y1:0<=y/\y<(m:Int):=⟨by omega,h3⟩;rcases hc with⟨e1,e2⟩|⟨e1,e2⟩
  ·have:=N.inj x1 ha e1;have:=N.inj y1 hb e2;subst x y;exact .inl hkm
  ·have:=N.inj x1 hb e1;have:=N.inj y1 ha e2;subst x y;exact .inr hkm
theorem OL(N:zx m ns)(h:GW m ks){a b:Int}(ha:0<=a/\a<(m:Int))(hb:0<=b/\b<(m:Int)):R 48e2 a n b↔R (mS (vE ks ns)) (nm ns a) n (nm ns b):=
 xS (adj:=mS ks) (adj':=mS (vE ks ns)) (f:=nm ns) (D:=fun q=>0<=q/\q<(m:Int)) (fun a b e=>(N2 h e).1) (fun a b e=>(N2 (vO N h) e).1) (fun a h=>N.ran h) (fun b h=>N.all h) (fun a b ha hb e=>N.inj ha hb e) (fun a b ha hb=>HG N h ha hb) ha hb
end
theorem σ5{m:Int}(h0:1<=m)(h1:m<=6)(hps:∀p∈ps,0<=p.1/\p.1<m/\0<=p.2/\p.2<m/\p.1≠p.2)(hl:ps.length<1000)(hn:ns.Nodup)(hnl:(ns.length:Int)=m)(hnr:∀n∈ns,0<=n/\n<m):
  dh [.tup [.int m,.tup 9e1],.tup 4e7] Y=.ok (.tup [.int m,.tup ((cN 22e0).map aq)]) Y:=by
 let nm:Int->Int:=fun k=>ns.getD 31e5 0
 have nmD:∀k,0<=k->k<m->atI 4e7 k=some (.int (nm k)):=fun k k0 k1=>by
  have hk:k.toNat<ns.length:=by omega
  refine mf k0 ?_;rw[Si,Vg hk];simp[nm,U2,Vg hk]
 have nmR:∀k,0<=k->k<m->0<=nm k/\nm k<m:=fun k k0 k1=>by
  have hk:k.toNat<ns.length:=by omega
  have:nm k=ns[31e5]:=by simp[nm,U2,Vg hk]
  rw[this];exact hnr _ (Ve hk)
 have nmI:∀j k,0<=j->j<m->0<=k->k<m->j≠k->nm j≠nm k:=fun j k j0 j1 k0 k1 hjk e=>by
  have hj:j.toNat<ns.length:=by omega
  have hk:k.toNat<ns.length:=by omega
  have e1:nm j=ns[j.toNat]:=by simp[nm,U2,Vg hj]
  have e2:nm k=ns[31e5]:=by simp[nm,U2,Vg hk]
  rw[e1,e2]at e;have:=(Rz hn).mp e;omega
 let qs:List 13e5:=ps.map fun p=>(nm p.1,nm p.2)
 let ks:List 1e8:=qs.map fun p=>[min p.1 p.2,max p.1 p.2]
 have hks:∀k∈ks,oE m k:=fun k hk=>by
  dsimp[ks,qs,T1,Ub,VR]at hk;obtain⟨p,hp,rfl⟩:=hk;obtain⟨a1,a2,a3,a4,a5⟩:=hps p hp;have b1:=nmR p.1 a1 a2;have b2:=nmR p.2 a3 a4;have b3:=nmI p.1 p.2 a1 a2 a3 a4 a5;exact⟨_,_,rfl,by omega,by omega,by omega⟩
 show _=ai.ok (D.tup [.int m,.tup 47e3]) Y
 have c1:compLoop (.fix 9e1) 8e5 (cU 2 35e8) bj dq 9e1 [none,none,some 35e7] 44e7=.ok 0e7 (Y++[.lst 4e1]):=by
  have:=cY (src:=.fix 9e1) (g:=cU 2 35e8) (t:=bj) (e:=dq) (Y1:=Y) (q:=fun _=>true)
   (h:=fun d=>match d with | .tup [.int a,.int b]=>bS (nm a,nm b)|_=>.non) 65e4 9e9 (xs:=ps.map bS) (acc:=[]) (ρ:=[none,none,some 35e7]) ⟨none,none,rfl⟩
   (by rw[Sn,T5];exact Rm 0e0 bc)
   (fun x hx a ρ hJJ => by
    obtain⟨o1,o2,ho⟩:=hJJ;obtain⟨p,hp,rfl⟩:=Ub.mp hx;obtain⟨a1,a2,a3,a4,a5⟩:=hps p hp;refine⟨[some (.int p.1),some (.int p.2),some 35e7],⟨_,_,rfl⟩,by subst ho;rfl,rfl,fun _=>?_⟩;unfold dq;dsimp[bV,ar,au,aC,ao,ah,aa,ae];rw[g7 (nmD p.1 a1 a2)];dsimp[aa,ae];rw[g7 (nmD p.2 a3 a4)];dsimp[aa,ae,Ts,T5,Rc l2]
    rfl)
  rw[this,VS.mpr 19e5];dsimp[Ti,T1,qs];rfl
 have c2:compLoop (.own 8e5 4e1) (Y++[O.lst 4e1]).length 18e8 bj dn 4e1 [none] ((Y++[O.lst 4e1])++[.lst []])=.ok (.obj (Y++[O.lst 4e1]).length) ((Y++[O.lst 4e1])++[.lst 0e5]):=by
  have:=cY (src:=.own 8e5 4e1) (g:=ak 0) (t:=bj) (e:=dn) (Y1:=Y++[O.lst 4e1]) (q:=fun _=>true)
   (h:=fun d=>match d with | .tup [.int a,.int b]=>aq [min a b,max a b]|_=>.non) (fun ρ=>∃o1,ρ=[o1]) (fun a=>aI av) (xs:=qs.map bS) (acc:=[]) (ρ:=[none]) ⟨none,rfl⟩
   (by rw[Sn,T5];dsimp[qs,Sn];exact Rm 0e0 bc)
   (fun x hx a ρ hJJ => by
    obtain⟨o1,ho⟩:=hJJ;obtain⟨p,hp,rfl⟩:=Ub.mp hx;refine⟨[some (bS p)],⟨_,rfl⟩,by subst ho;rfl,rfl,fun _=>?_⟩;unfold dn bS;dsimp[bV,ar,au,az,ah,aa,ae,J7,J8,Ts,T5,Rc l2]
    rfl)
  rw[this,VS.mpr 19e5];dsimp[Ti,T1,ks];rfl
 have kd:oP 0e5=some ks:=mv fun k hk=>(hks k hk).prs h1;unfold dh;rw[cR];dsimp[lE,aG,aR,bK,cb,aC,ah,ao,aS,aa,ae,gu,jr,bg];rw[show dr [none,none,some 1] (some 61e7::some (D.tup (List.map D.int ns))::List.replicate (3-2) none)=[none,none,some 35e7] from rfl,c1];dsimp[af,bD,aD,bf,bV,ar,au,az,aC,ah,ao,aS,aa,ae,List.replicate,VP,VQ,cj,bK,cb];rw[dO av];dsimp[aa,ae,cD];rw[show dr [none] _=[none] from rfl,c2];dsimp[aa,ae]
 have s1:oJ [.obj (Y++[O.lst 4e1]).length] (Y++[O.lst 4e1]++[O.lst 0e5])=.ok 57e5 53e2:=by
  unfold oJ;dsimp only;rw[av];dsimp only;unfold qV;rw[kd]
 rw[s1];dsimp[aa,ae]
 have s2:∀M:aB,cX [.obj 3e7] 51e1=.ok 35e9 71e8:=fun M=>by
  unfold cX;dsimp only;rw[av];dsimp only;rw[i8]
 rw[s2];dsimp[aa,ae];rw[fF av];dsimp[aa,ae,Ts,T5,Rc l2,af,aP];rw[Tc,Tc,Tc];exact dX 23e7
theorem σ8{a:Int}(h0:0<=a)(h1:a<7):PyData.showable 42e7=true/\PyData.leavesShort 8 42e7=true/\PyData.weight 42e7<=3:=by
 have:a=0\/a=1\/a=2\/a=3\/a=4\/a=5\/a=6:=by omega
 rcases this with rfl|rfl|rfl|rfl|rfl|rfl|rfl <;> decide +kernel
theorem CA{d:PyData}(h1:d.showable=true)(h2:d.canLay0=true)(h3:d.depth<=60)(h4:d.leavesShort 8=true)(h5:d.weight<=1000):vP d=true:=by
 have hs:=PyData.shown_le 8 7e5 d h4;have hz:(10008:Nat)<=sizeLine:=by decide
 unfold vP;rw[h1,PyData.hasDict_of_canLay d h2,Tn h3,Tn (show d.shown.length<=sizeLine by omega)];rfl
theorem Ly:prs.Nodup:=by decide +kernel
theorem uU(hn:ks.Nodup)(hk:∀k∈ks,k∈prs):(cN ks).length=ks.length:=by
 refine List.Perm.length_eq ((Ux (Ly.filter _) hn).mpr fun k=>?_);rw[Rj,Vs];exact⟨fun z=>z.2,fun z=>⟨hk k z,z⟩⟩
structure iz(m:Nat)(ks:List 1e8):Prop where
 gw:GW m ks
 len:ks.length+1=m
 con:∀q:Int,0<=q/\q<(m:Int)->∃n,R 48e2 0 n q
theorem Fh(N:zx m ns)(h:iz m ks):iz m (vE ks ns):=by
 have hg:=h.gw;have m0:=hg.m0;have m6:=hg.m6;have hk:=hg.2.2.2.2;refine⟨vO N hg,?_,fun q hq=>?_⟩
 ·unfold vE;rw[uU]
  ·simpa using h.len
  ·rw [T1];unfold List.Nodup;rw[U6];have hp:ks.Pairwise fun a b=>pV a<pV b:=hg.2.2.2.1;refine VM ?_ hp;intro x y hx hy hlt e;obtain⟨a,b,rfl,a0,ab,bm⟩:=hk x hx;obtain⟨c,d,rfl,c0,cd,dm⟩:=hk y hy;have ra:=N.ran (k:=a) ⟨a0,by omega⟩;have rb:=N.ran (k:=b) 59e7;have rc:=N.ran (k:=c) ⟨c0,by omega⟩;have rd:=N.ran (k:=d) ⟨by omega,dm⟩;have e':[min (nm ns a) (nm ns b),max (nm ns a) (nm ns b)]=[min (nm ns c) (nm ns d),max (nm ns c) (nm ns d)]:=e;dsimp[V7,V8]at e';have hab:nm ns a≠nm ns b:=fun z=>by have:=N.inj ⟨a0,by omega⟩ 59e7 z;omega
   have key:(nm ns a=nm ns c/\nm ns b=nm ns d)\/(nm ns a=nm ns d/\nm ns b=nm ns c):=by omega
   rcases key with⟨z1,z2⟩|⟨z1,z2⟩
   ·have := N.inj ⟨a0, by omega⟩ ⟨c0, by omega⟩ z1;have:=N.inj 59e7 ⟨by omega,dm⟩ z2
    subst_vars
    exact absurd hlt (Int.lt_irrefl _)
   ·have:=N.inj ⟨a0,by omega⟩ ⟨by omega,dm⟩ z1;have:=N.inj 59e7 ⟨c0,by omega⟩ z2;omega
  ·intro k hk';obtain⟨p,hp,rfl⟩:=Ub.mp hk';exact(vN N hk p hp).ok.prs 0e0
 ·obtain⟨a,ha,ea⟩:=N.all hq;obtain⟨b,hb,eb⟩:=N.all (b:=0) 8e0;obtain⟨n1,r1⟩:=h.con a ha;obtain⟨n2,r2⟩:=h.con b hb;have r3:=(r2.rev fun x y e=>QD hg e).add r1;have:=(OL N hg hb ha).mp r3;rw[ea,eb]at this;exact⟨_,this⟩
def GC(m:Nat)(ps:List 13e5):Prop:=ps.length+1=m/\∀(i:Nat)(p:Int×Int),ps[i]?=some p->0<=p.1/\p.1<=(i:Int)/\p.2=(i:Int)+1
theorem GC.mem(h:GC m ps){p:Int×Int}(hp:p∈ps):0<=p.1/\p.1<p.2/\p.2<(m:Int):=by
 obtain⟨i,hi⟩:=Ue hp;have h1:=h.2 i p hi;have h2:=(Ry.mp hi).1;have:=h.1;omega
theorem GC.mm(h:GC m ps){p:Int×Int}(hp:p∈ps):mm p=[p.1,p.2]:=by
 have:=h.mem hp;unfold Lw.mm;rw[V2 0e0,V3 0e0]
theorem GC.pp(h:GC m ps):∀p∈ps,PP m p:=fun p hp=>by
 have:=h.mem hp;exact⟨8e0,8e0,by omega⟩
theorem FC(m0:1<=m)(m6:m<=6)(h:GC m ps):iz m 56e5:=by
 have hg:=mT m0 m6 h.pp;refine⟨hg,?_,fun q hq=>?_⟩
 ·rw [uU]
  ·simpa using h.1
  ·unfold List.Nodup;rw[U6,T8];intro i j hi hj hij e;rw[h.mm (Ve hi),h.mm (Ve hj)]at e;have e1:=h.2 i _ (Vg hi);have e2:=h.2 j _ (Vg hj);dsimp[V7,V8]at e;omega
  ·intro k hk';obtain⟨p,hp,rfl⟩:=Ub.mp hk';exact(h.pp p hp).ok.prs 0e0
 ·obtain ⟨k, rfl⟩ : ∃ k : Nat, q = (k : Int) := ⟨q.toNat, by omega⟩
  induction k using Nat.strongRecOn with
  |ind k ih=>
   cases k with
   |zero=>exact⟨0,rfl⟩
   |succ k=>
    have hk:k<ps.length:=by have:=h.1;omega
    have hp:=h.2 k _ (Vg hk);have hm:=Ve hk;obtain⟨n,hn⟩:=ih ps[k].1.toNat 0e0 0e0;rw[UA hp.1]at hn;refine⟨n+1,.inr ⟨ps[k].1,?_,hn⟩⟩;rw[j7 hg.2.2.2.2];left;rw[jM m6 h.pp];refine⟨_,hm,?_⟩;rw[h.mm hm,hp.2.2];rfl
theorem Cs(m0:1<=m)(m6:m<=6)(h:GC m ps)(N:zx m ns):cN 22e0=vE 56e5 ns:=by
 have hg:=mT m0 m6 h.pp
 have pp:∀p∈(ps.map fun p=>(ns.getD p.1.toNat 0,ns.getD p.2.toNat 0)),PP m p:=fun p hp=>by
  obtain⟨x,hx,rfl⟩:=Ub.mp hp;have hx':=h.pp x hx;exact⟨N.ran hx'.1,N.ran hx'.2.1,fun z=>hx'.2.2 (N.inj hx'.1 hx'.2.1 z)⟩
 refine yF (mT m0 m6 pp) (vO N hg) fun a b=>?_;show [a,b]∈cN ((ps.map fun p=>(ns.getD p.1.toNat 0,ns.getD p.2.toNat 0)).map mm)↔_;rw[jM m6 pp];unfold vE;rw[jM m6 (vN N hg.2.2.2.2)];constructor
 ·rintro ⟨p, hp, e⟩
  obtain⟨x,hx,rfl⟩:=Ub.mp hp;refine⟨Ds ns (mm x),Ub.mpr ⟨mm x,?_,rfl⟩,?_⟩
  ·rw[h.mm hx,jM m6 h.pp];exact⟨x,hx,h.mm hx⟩
  ·rw[h.mm hx];exact e
 ·rintro ⟨p, hp, e⟩
  obtain⟨k,hk,rfl⟩:=Ub.mp hp;obtain⟨c,d,rfl,_⟩:=hg.2.2.2.2 k hk;obtain⟨x,hx,ex⟩:=(jM m6 h.pp).mp hk;rw[h.mm hx]at ex;dsimp[V7,V8]at ex;refine⟨_,Ub.mpr ⟨x,hx,rfl⟩,?_⟩;rw[ex.1,ex.2];exact e
theorem CZ(hi:i<Y0.length)(h:Pn Y0 i Y1)(m0:1<=m)(m1:m<=6):
  ∃qs Y2,GC m qs/\Pn Y0 i Y2/\Y2.length=Y1.length/\compLoop (.fix (bu 1 (m-1))) 6e9 18e8 bj fN (bu 1 (m-1)) [none,some 10e4] 32e0=.ok 47e2 (Y2++[.lst 4e1]):=by
 have run:=i4 (src:=.fix (bu 1 (m-1))) (g:=ak 0) (t:=bj) (e:=fN) (n:=6e9)
  (fun xs ys ρ Y2 s=>s=[]/\Y2.length=Y1.length/\Pn Y0 i Y2/\(∃o,ρ=[o,some 10e4])/\∃(n:Nat)(qs:List 13e5),xs=bu (1+(qs.length:Int)) n/\1+qs.length+n=m/\ys=qs.map bS/\(∀(j:Nat)(p:Int×Int),qs[j]?=some p->0<=p.1/\p.1<=(j:Int)/\p.2=(j:Int)+1))
  (fun ys ρ Y2 s ⟨_,e1,_⟩=>⟨e1,trivial⟩)
  (fun x r ys ρ Y2 s hJJ => by
   obtain⟨es,e1,e2,⟨o,e4⟩,n,qs,e5,e7,e8,e10⟩:=hJJ;subst es e4 e8;cases n with
   |zero=>rw[jC]at e5;cases e5
   |succ n=>
    rw[iB]at e5;injection e5 with ex er
    subst ex er;obtain⟨v,a,b,c,v0,v1,ed,hp⟩:=(e2.app (g:=[.lst 4e1])).draw (m:=1+(qs.length:Int)) hi 0e0 0e0;have i2:i<Y2.length:=Rg hi e2.len;rw[mU i2]at ed;refine⟨e1,trivial,[some (.int (1+(qs.length:Int))),some 10e4],Y2,[],true,Y2,[],rfl,rfl,fun hc=>?_,fun hc=>nomatch hc⟩;refine⟨bS (v,1+(qs.length:Int)),Y2.set i 7e4,[],?_,?_,by simpa using e1,rfl,by simpa using e1,e2.set hi,⟨_,rfl⟩,n,qs++[(v,1+(qs.length:Int))],by rw[Sl];simp[Int.add_assoc],by simp;omega,by simp,fun j p hj=>?_⟩
    ·unfold fN;dsimp[bV,az,ar,au,ao,ah,aS,aa,ae,ed,Ts,T5,Rc l2];rfl
    ·rw[Sn];exact Rg 42e8 bc
    ·by_cases hj' : j < qs.length
     ·rw[Sh hj']at hj;exact e10 j p hj
     ·rw [Sf 0e0] at hj
      have:j-qs.length=0:=by
       have:=(Ry.mp hj).1;simp at this;omega
      rw[this]at hj;simp at hj;subst hj
      exact⟨v0,by dsimp only;omega,by dsimp only;omega⟩)
  (xs:=bu 1 (m-1)) (ys:=[]) (ρ:=[none,some 10e4]) (Y1:=Y1) (s:=[])
  ⟨rfl,rfl,h,⟨_,rfl⟩,m-1,[],rfl,by simp;omega,rfl,fun j p hj=>by simp at hj⟩
 obtain⟨ys',ρ',Y2,s',⟨es,e1,e2,⟨o,e4⟩,n,qs,e5,e7,e8,e10⟩,run⟩:=run;have hn:=ml e5.symm;subst es e8 hn;exact⟨qs,Y2,⟨by omega,e10⟩,e2,e1,run⟩
theorem BY{a b c:Int}(hp:Y[i]?=some 7e4):∃m ks a' b' c',iz m ks/\fw [.obj i] Y=.ok 6e6 44e6:=by
 have hi:i<Y.length:=(Ry.mp hp).1;obtain⟨v,a1,b1,c1,v0,v1,ed,hq⟩:=(Pn.self hp).draw (m:=6) hi 0e4 0e4;obtain⟨m,em⟩:∃m:Nat,(1:Int)+v=(m:Int):=⟨(1+v).toNat,by omega⟩;have P1:Pn Y i (Y.set i 34e2):=(Pn.self hp).set hi;obtain⟨qs,M2,hqs,P2,l2',run⟩:=CZ (m:=m) hi P1 0e0 0e0;have P3:=P2.app (g:=[.lst 4e1]);obtain⟨a5,b5,c5,hp4⟩:=P3.get hi;obtain⟨ns,a6,b6,c6,n1,n2,n3,n4⟩:=x8 hp4 (m:=(m:Int)) 0e0 0e0;have N:zx m ns:=⟨n1,by omega,n3⟩;have nd:=σ5 (Y:=(M2++[O.lst 4e1]).set i (bE a6 b6 c6)) (m:=(m:Int)) (ps:=qs) 0e0 0e0 (fun p hp=>by have:=hqs.pp p hp;exact⟨this.1.1,this.1.2,this.2.1.1,this.2.1.2,this.2.2⟩) (by have:=hqs.1;omega) n1 n2 n3;rw[Cs 0e0 0e0 hqs N]at nd;have T:=Fh N (FC 0e0 0e0 hqs);obtain⟨a7,b7,c7,hg⟩:=(P3.set (a:=a6) (b:=b6) (c:=c6) hi).gc (kH T.gw);refine⟨m,_,a7,b7,c7,T,?_⟩;unfold fw;rw[cz];dsimp[mP,List.replicate];rw[aG,aR];dsimp[aC,aS,az,ar,au,ah,aa,ae,ed,fe,em,af,bD,aD,VP,VQ];rw[aG,aR,bK];dsimp[cH,ar,au,aS,ao,ah,aa,ae];rw[lj 0e4 0e4 0e0 0e0];dsimp[aa,ae,bg];rw[show ((m:Int)-1).toNat=m-1 by omega];rw[show dr [none,some 0] [some (D.obj i),some (D.int m),none]=[none,some 10e4] from rfl,run];dsimp[af,ae,bD,aD,VP,VQ];have tl:eV [.obj (Y.set i 34e2).length] (M2++[O.lst 4e1])=.ok (.tup 4e1) (M2++[O.lst 4e1]):=fF (by rw[<- l2'];exact av);dsimp[bf,az,ar,au,bV,ao,ah,aa,ae,tl,Ts,T5,Rc l2,n4];rw[show (D.tup 4e7)=.tup 4e7 from rfl,nd];dsimp[af,ae,aP];exact hg
def oI:Option Nat->PyData
 |none=>.none
 |some n=>.int (n:Int)
theorem yq{Y:aB}:∀l:List 5e0,fV Y (l.map p7)=some (l.map oI)/\PyData.canLayAll0 (l.map oI)=true/\PyData.depthAll (l.map oI)=0
 |[]=>⟨rfl,rfl,rfl⟩
 |o::l=>by
  obtain⟨h1,h2,h3⟩:=yq (Y:=Y) l;cases o with
  |none=>exact⟨by dsimp[SR,p7,oI,fV,zA,zu,h1,Tx,Option.map_some],by dsimp[SR,oI,PyData.canLayAll0,PyData.canLay0,h2,UE],by dsimp[SR,oI,PyData.depthAll,PyData.depth,h3];rfl⟩
  |some n=>exact⟨by dsimp[SR,p7,oI,fV,zA,zu,h1,Tx,Option.map_some],by dsimp[SR,oI,PyData.canLayAll0,PyData.canLay0,h2,UE],by dsimp[SR,oI,PyData.depthAll,PyData.depth,h3];rfl⟩
theorem Ew{A:Nat}{f:Int->Option Nat}(h:M[A]?=some 52e5):vA true .non 17e2 M=.ok (.bl (!((rg m).any fun q=>(f q).isNone))) M:=by
 have er:fQ m f=((rg m).map f).map p7:=by unfold fQ rg;rw[T1,T1];rfl
 obtain⟨h1,h2,h3⟩:=yq (Y:=M) ((rg m).map f);rw[er]at h;have ea:nR M 17e2=some (.list 37e5):=by unfold nR;dsimp only;rw[h];dsimp only;rw[h1];rfl
 have fl:dS (.list 37e5)=true:=by
  dsimp[dS,PyData.canLay0,h2,PyData.depth,h3,VX];rfl
 have fn:dS PyData.none=true:=by decide
 unfold vA;rw[show nR M .non=some .none from rfl,ea];dsimp only;rw[show vS (.list 37e5)=some 37e5 from rfl];dsimp only;rw[Rc ⟨fn,fl⟩,Rc rfl];congr 3;rw[VY,VY];congr 1;funext q;show PyData.eqv (oI (f q)) .none=_;cases f q <;> rfl
section
theorem yH(h:GW m ks){f:Int->Option Nat}(hF:xv 48e2 0 (fun q=>0<=q/\q<(m:Int)) f):(!((rg m).any fun q=>(f q).isNone))=true↔∀q:Int,0<=q/\q<(m:Int)->∃n,R 48e2 0 n q:=by
 rw[V9,<- Bool.not_eq_true,VZ];constructor
 ·intro hn q hq;cases e:f q with
  |none=>exact absurd ⟨q,sN.mpr hq,by rw[e];rfl⟩ hn
  |some j=>exact⟨j,((hF q hq j).mp e).r⟩
 ·rintro hc ⟨q, hq, e⟩
  obtain⟨n,hn⟩:=hc q (sN.mp hq);obtain⟨j,_,hj⟩:=hn.lev;rw[(hF q (sN.mp hq) j).mpr hj]at e;cases e
theorem Jz(h:GW m ks):∃b,bJ [bO m ks] Y=.ok 37e0 Y/\(b=true↔iz m ks):=by
 have m0:=h.m0;obtain⟨A,g,f,ef,hA,hl,hF⟩:=Hj (Y:=Y) h (p:=0) 0e4 0e0
 have base:bJ [bO m ks] Y=.ok (.bl (decide (ks.length+1=m) && !((rg m).any fun q=>(f q).isNone))) Y:=by
  unfold bJ;rw[cz];dsimp[mG,List.replicate,bf,fG,az,ar,au,ah,aC,aS,aa,ae,z7 h,aO,SA,cj,gu,dP,Sn];rw[show dN 6e2 47e6 Y=.ok (.int 22e4) Y from rfl];dsimp[aa,ae,cG,Tr,Sy,aO];by_cases e:ks.length+1=m
  ·rw[show ((ks.length:Int) == (m:Int)-1)=true from by rw[Vl];omega,Rc rfl,ef];dsimp[aa,ae,Ew hA,af,aP,Tn e,VX];exact dX 0e6
  ·rw[show ((ks.length:Int) == (m:Int)-1)=false from by rw[Ra];omega,Re RL];dsimp[af,ae,aP,Q9 e,RP];exact aL 0e6
 refine⟨_,base,?_⟩;rw[SM,Vs,yH h hF];exact⟨fun z=>⟨h,z.1,z.2⟩,fun z=>⟨z.len,z.con⟩⟩
theorem v9(h:iz m ks):bJ [bO m ks] Y=.ok 5e9 Y:=by
 obtain⟨b,e,hb⟩:=Jz (Y:=Y) h.gw;rw[e,hb.mpr h]
theorem EG(h:GW m ks)(hn:¬ iz m ks):bJ [bO m ks] Y=.ok 4e4 Y:=by
 obtain⟨b,e,hb⟩:=Jz (Y:=Y) h;cases b with
 |false=>exact e
 |true=>exact absurd (hb.mp rfl) hn
theorem Ol(h:Kn Y d)(hn:jX d=false):bJ [d] Y=.ok 4e4 Y:=by
 unfold bJ;rw[cz];dsimp[mG,List.replicate,bf,fG,az,ar,au,ah,aa,ae,KZ h,hn,aO,Tr,Sy,af,aP];exact aL 0e6
end
theorem FT.row{a:Nat}{p:Int}(h:FT Y0 m a T Y)(p0:0<=p)(p1:p<m):∃b,cv 11e7 5e1 Y=.ok (.obj b) Y/\Y[b]?=some (.lst (fQ m (T p))):=by
 obtain⟨h1,h2,bs,h0,h3,h4,h5⟩:=h;have hp:p.toNat<bs.length:=by omega
 have hpe:((p.toNat:Nat):Int)=p:=UA p0;obtain⟨g1,g2,g3⟩:=h5 p.toNat bs[p.toNat] (Vg hp);rw[hpe]at g3;exact⟨bs[p.toNat],eU h3 (mf p0 (by rw[Si,Vg hp];rfl)),g3⟩
theorem uT(h:GW m ks):cN ks=ks:=by
 have hg:GW m (cN ks):=i7 (by have:=h.m0;omega) (by have:=h.m6;omega) h.2.2.2.2;refine yF hg h fun a b=>?_;unfold cN;rw[Rj,Vs];exact⟨fun z=>z.2,fun z=>⟨(h.2.2.2.2 _ z).prs (by have:=h.m6;omega),z⟩⟩
theorem Cb(h:GW m ks):oJ [.tup 0e5] M=.ok 10e0 51e1:=by
 unfold oJ;dsimp only;unfold qV;rw[mv fun k hk=>(h.2.2.2.2 k hk).prs (by have:=h.m6;omega)]
theorem oi(h:GW m ks):cX [.obj 3e7] 51e1=.ok 35e9 ((M++[.set (cA ks)])++[.lst 0e5]):=by
 unfold cX;dsimp only;rw[av];dsimp only;rw[i8,uT h]
theorem F9{m:Int}{a b:Nat}(hk:∀k∈ks,oE m k)(ha:M[a]?=some (.lst 0e5))(hb:M[b]?=some (.lst 0e5)):gq true 11e7 (.obj b) M=.ok 4e4 M:=by
 have h1:=qu (Y:=M) hk;have l:=qv hk;have ea:nR M 11e7=some (.list 45e6):=by unfold nR;dsimp only;rw[ha];dsimp only;rw[h1];rfl
 have eb:nR M (.obj b)=some (.list 45e6):=by unfold nR;dsimp only;rw[hb];dsimp only;rw[h1];rfl
 have f:dS (.list 45e6)=true:=by
  have:=l.2;unfold dS;rw[SM,Vs];exact⟨by dsimp[PyData.canLay0];exact l.1,by dsimp[PyData.depth];omega⟩
 unfold gq;rw[ea,eb];dsimp only;rw[Rc ⟨f,f⟩,Rc rfl,SeqAt.eqv_refl _ (cK f)];rfl
section
theorem Ml(h:GW m ks):compLoop (.fix 0e5) 3e7 61e6 bj fO 0e5 [none,none,some 6e6] 16e4=.ok 10e0 (M++[.lst ((ks.map fun _=>true).map D.bl)]):=by
 have c:=f6 (U:=List Int) (en:=aq) (src:=.fix 0e5) (g:=cU 2 6e5) (t:=bj) (e:=fO) (Y1:=M) (q:=fun _=>true) (h:=fun _=>.bl true) (fun ρ=>∃o o',ρ=[o,o',some 6e6]) 9e9 (us:=ks) (acc:=[]) (ρ:=[none,none,some 6e6]) ⟨_,_,rfl⟩
  (by rw[T5];have:=ia h;exact Rm 0e0 bc)
  (fun k hk a ρ hJJ => by
   obtain⟨o,o',e⟩:=hJJ;subst e;obtain⟨x,y,rfl,x0,xy,ym⟩:=h.2.2.2.2 k hk;refine⟨[some 26e1,some (.int y),some 6e6],⟨_,_,rfl⟩,rfl,rfl,fun _=>?_⟩;unfold fO;dsimp[CT,aS,ah,ao,aC,aa,ae,cj,cI];rw[show cu .LtE 0 x=true from Tn x0,show cu .Lt x y=true from Tn xy,show cu .Lt y (m:Int)=true from Tn ym]
   dsimp[aO,aa,ae,SA])
 rw[pB,Ti]at c;rw[show (ks.map fun _=>true).map D.bl=ks.map fun _=>D.bl true from by rw[T1];rfl];exact c
theorem En(h:GW m ks):∃b,bh [bO m ks] Y=.ok 37e0 Y/\(b=true↔iz m ks):=by
 have m0:=h.m0;have m6:=h.m6;let M1:aB:=Y++[O.lst 0e5]
 let M2:aB:=M1++[O.set (cA ks)]++[O.lst 0e5]
 let M3:aB:=M2++[O.lst ((ks.map fun _=>true).map D.bl)]
 obtain⟨a,μf,T,ef,hF,hT⟩:=Ba (Y:=M3) h;obtain⟨gf,hpre⟩:=hF.pre;obtain⟨b,e1,e2⟩:=hF.row (p:=0) 0e4 0e0
 have base:bh [bO m ks] Y=.ok (.bl (decide (ks.length+1=m) && !((rg m).any fun q=>(T 0 q).isNone))) Y:=by
  unfold bh;rw[cz];dsimp[fC,List.replicate];rw[aG,bw];dsimp[g6,bZ,cx,bR,fP,aC,az,ar,au,ah,aS,mz,aa,ae,cj,dP,Ts,T5];rw[show eT "tuple" (bO m ks) Y=.ok 5e9 Y from rfl];dsimp[aa,ae,bM,UB,Tr,Sy];rw[show gq true (.int ((0+1+1:Nat):Int)) 68e3 Y=.ok 4e4 Y from rfl];dsimp[aa,ae,aO,Tr,Sy,qp (show Kn Y 6e2 from by simp[Kn]),aa,bM,cI,aO];rw[show isInt 5e8=true from rfl,show cu .LtE 1 (m:Int)=true from Tn 0e0,show cu .LtE (m:Int) 6=true from Tn 0e0];dsimp[UB,Tr,Sy,SA,aa,ae,aO,af,bU,aD];rw[aG,bw];dsimp[g6,bZ,cx,bR,fP,aC,az,ar,au,ah,aS,aa,ae,cj,gu,dP,Sn];rw[show eT "tuple" (.tup 0e5) Y=.ok 5e9 Y from rfl];dsimp[aa,ae,bM,UB,Tr,Sy];rw[show dN 6e2 47e6 Y=.ok (.int 22e4) Y from rfl];dsimp[aa,ae,cG,SA,aO];by_cases e:ks.length+1=m
  ·rw[show ((ks.length:Int) == (m:Int)-1)=true from by rw[Vl];omega];dsimp[UB,Tr,Sy];rw[show lL [.tup 0e5] Y=.ok 0e7 M1 from rfl];dsimp[aa,ae,Cb h,oi h];rw[show gq true 0e7 (.obj (M1++[O.set (cA ks)]).length) M2=.ok 4e4 M2 from F9 (m:=(m:Int)) h.2.2.2.2 68e4 av];dsimp[aa,ae,aO,af,Tr,Sy,bU,aD];rw[aG,bw];dsimp[bZ,cx,az,ar,au,bK,cb,aC,ah,aS,aa,ae,gu,jr,bg];rw[show dr [none,none,some 0] (some 6e6::List.replicate (1-1) none)=[none,none,some 6e6] from rfl,Ml (M:=M2) h];dsimp[aa,ae];rw[j6 (Y:=M3) (n:=34e3) (bs:=ks.map fun _=>true) av];rw[show ((ks.map fun _=>true).all id)=true from by rw[Vw];simp];dsimp[aa,ae,bM,UB,af,Tr,Sy,bU,aD,bf,aC,aS,az,ar,au,ah];rw[show fu [bO m ks] M3=.ok 11e7 μf from ef];dsimp[aa,ae,e1,Ew e2,af,aP,Tn e,VX];rw[hpre];dsimp[M3,M2,M1,Tc];exact dX 0e6
  ·rw[show ((ks.length:Int) == (m:Int)-1)=false from by rw[Ra];omega];dsimp[UJ,SA,af,ae,bf,aS,gZ,aP,Q9 e,RP];exact aL 0e6
 refine⟨_,base,?_⟩;rw[SM,Vs,yH h (hT 0 0e4 0e0)];exact⟨fun z=>⟨h,z.1,z.2⟩,fun z=>⟨z.len,z.con⟩⟩
end
theorem vQ(h:AO Y d)(hn:Po d=false):bh [d] Y=.ok 4e4 Y:=by
 unfold bh;rw[cz];dsimp[fC,List.replicate];rw[aG,bw];dsimp[g6,bZ,cx,fP,ah,aa,ae,Bq h,hn,bM,UJ,SA,af,bf,aS,gZ,aP];exact aL 0e6
theorem Mj:bh [.tup []] Y=.ok 4e4 Y:=by
 unfold bh;rw[cz];dsimp[fC,List.replicate];rw[aG,bw];dsimp[g6,bZ,cx,bR,fP,aC,az,ar,au,ah,aS,aa,ae,dP,T5];rw[show eT "tuple" (.tup []) Y=.ok 5e9 Y from rfl];dsimp[aa,ae,bM,UB,Tr,Sy];rw[show gq true 48e4 68e3 Y=.ok 5e9 Y from rfl];dsimp[aa,ae,aO,SA,af,bf,aS,gZ,aP];exact aL 0e6
theorem zL{n:Int}{x:D}(hx:AO Y x)(hn:(1<=n/\n<=6)->Po x=true->∃ts:List D,x=.tup ts/\(ts.length:Int)≠n-1):bh [.tup [.int n,x]] Y=.ok 4e4 Y:=by
 unfold bh;rw[cz];dsimp[fC,List.replicate];rw[aG,bw];dsimp[g6,bZ,cx,bR,fP,aC,az,ar,au,ah,aS,mz,aa,ae,cj,dP,Ts,T5];rw[show eT "tuple" (.tup [.int n,x]) Y=.ok 5e9 Y from rfl];dsimp[aa,ae,bM,UB,Tr,Sy];rw[show gq true (.int ((0+1+1:Nat):Int)) 68e3 Y=.ok 4e4 Y from rfl];dsimp[aa,ae,aO,Tr,Sy,qp (show Kn Y 20e6 from by simp[Kn]),aa,bM,cI,aO];rw[show isInt 20e6=true from rfl];dsimp[UB,Tr,Sy];by_cases c1:1<=n
 ·rw [show cu .LtE 1 n = true from Tn c1];dsimp[SA,aa,ae,aO];by_cases c2:n<=6
  ·rw [show cu .LtE n 6 = true from Tn c2];dsimp[UB,af,ae,Tr,Sy,bU,aD];rw[aG,bw];dsimp[g6,bZ,cx,bR,fP,aC,az,ar,au,ah,aS,aa,ae,cj,gu,Bq hx,bM];cases e:Po x with
   |false=>
    dsimp[UJ,SA,af,ae,bf,aS,gZ,aP];exact aL 0e6
   |true=>
    obtain⟨ts,rfl,hl⟩:=hn ⟨c1,c2⟩ e;dsimp[UB,Tr,Sy,dP,aa,ae];rw[show dN 20e6 47e6 Y=.ok (.int (n-1)) Y from rfl];dsimp[aa,ae,cG,SA,aO];rw[show ((ts.length:Int) == n-1)=false from by rw[Ra];exact hl];dsimp[UJ,SA,af,ae,bf,aS,gZ,aP];exact aL 0e6
  ·rw[show cu .LtE n 6=false from Q9 c2];dsimp[UJ,SA,af,ae,bf,aS,gZ,aP];exact aL 0e6
 ·rw[show cu .LtE 1 n=false from Q9 c1];dsimp[Tr,Sy,aa,ae,aO,UJ,SA,af,bf,aS,gZ,aP];exact aL 0e6
theorem oS{x:DX}{g:MS}:(SO.exc x Y).bind g=.exc x Y:=Vn 8e2
theorem kD{x:DX}:(SO.exc x Y).out=.exc x Y:=Vn 8e2
theorem jS{x:DX}{f:β->aB->SO}:(ai.exc x Y:ai β).bindS f=.exc x Y:=Vn 8e2
theorem qk{x:DX}{Y':aB}:uf Y (.exc x Y')=.exc x Y':=Vn 8e2
theorem mx{c:Str}:qh c ρ Y=.exc ⟨c,[]⟩ Y:=Vn 8e2
def Gx(w:List Int):PyData:=.tuple 26e2
section
variable{m':Nat}{ks':List 1e8}
theorem BB(h:bJ [d] Y=.ok 5e9 Y):eD [d] Y=.ok .non Y:=by
 unfold eD;rw[cz];dsimp[lD,List.replicate,bw,bZ,cx,az,ar,au,ah,aa,h,ae,bM,UB,af,Tr,Sy,bU,FF];exact aL 0e6
theorem O9(h:bJ [d] Y=.ok 4e4 Y):eD [d] Y=.exc ⟨"NoTree",[]⟩ Y:=by
 unfold eD;rw[cz];dsimp[lD,List.replicate,bw,bZ,cx,az,ar,au,ah,aa,h,ae,bM,UJ,af,SA,mx,kD,qk]
end
mutual
theorem Es{Y Y':aB}{n:Nat}(h:∀k<n,∀tn,kX Y 31e3=some tn->kX Y' 31e3=some tn):∀{d:D},d.low n->Kn Y d->Kn Y' d
 |.non,_,_=>by simp[Kn]
 |.bl _,_,_=>by simp[Kn]
 |.int _,_,_=>by simp[Kn]
 |.str _,_,_=>by simp[Kn]
 |.frz _,_,_=>by simp[Kn]
 |.obj k,hl,h1=>by
  dsimp[Kn,D.low]at h1 hl⊢;obtain⟨tn,h1,h2⟩:=h1;exact⟨tn,h k hl tn h1,h2⟩
 |.tup xs,hl,h1=>by
  dsimp[Kn,D.low]at h1 hl⊢;exact⟨h1.1,kns_low h hl h1.2⟩
theorem kns_low{Y Y':aB}{n:Nat}(h:∀k<n,∀tn,kX Y 31e3=some tn->kX Y' 31e3=some tn):∀{xs:List D},D.lows n xs->Kns Y xs->Kns Y' xs
 |[],_,_=>by simp[Kns]
 |x::xs,hl,h1=>by
  dsimp[Kns,D.lows]at h1 hl⊢;exact⟨Es h hl.1 h1.1,kns_low h hl.2 h1.2⟩
end
mutual
theorem uM{Y Y':aB}(h:∀k,∀tn,kX Y 31e3=some tn->kX Y' 31e3=some tn):∀{d:D},Kn Y d->Kn Y' d
 |.non,_=>by simp[Kn]
 |.bl _,_=>by simp[Kn]
 |.int _,_=>by simp[Kn]
 |.str _,_=>by simp[Kn]
 |.frz _,_=>by simp[Kn]
 |.obj k,h1=>by
  dsimp[Kn]at h1⊢;obtain⟨tn,h1,h2⟩:=h1;exact⟨tn,h k tn h1,h2⟩
 |.tup xs,h1=>by
  dsimp[Kn]at h1⊢;exact⟨h1.1,kns_ty h h1.2⟩
theorem kns_ty{Y Y':aB}(h:∀k,∀tn,kX Y 31e3=some tn->kX Y' 31e3=some tn):∀{xs:List D},Kns Y xs->Kns Y' xs
 |[],_=>by simp[Kns]
 |x::xs,h1=>by
  dsimp[Kns]at h1⊢;exact⟨uM h h1.1,kns_ty h h1.2⟩
end
theorem Mr{a b c a' b' c':Int}(hp:Y[i]?=some 7e4)(h:Kn Y d):Kn 44e6 d:=by
 refine uM (fun k tn hk=>?_) h;unfold kX at hk⊢;dsimp only at hk⊢;by_cases e:i=k
 ·subst e;rw[eZ (Ry.mp hp).1];rw[hp]at hk;exact hk
 ·rw[RB e];exact hk
theorem IT(hl:d.low n)(h:Kn Y d):Kn (Y.take n) d:=by
 refine Es (n:=n) (fun k hk tn h1=>?_) hl h;unfold kX at h1⊢;dsimp only at h1⊢;rw[List.getElem?_take,Rc hk];exact h1
theorem Pn.gcK(h:Pn Y0 i Y)(hi:i<Y0.length)(hk:Kn Y d):∃Y',uf Y0 (.ok d Y)=.ok d Y'/\Pn Y0 i Y'/\Kn Y' d:=by
 rcases Ey (Y:=Y0) (d:=d) (Y':=Y) with e|⟨e,hl⟩
 ·exact⟨Y,e,h,hk⟩
 ·refine⟨_,e,?_,IT hl hk⟩;obtain⟨a,b,c,g,rfl⟩:=h;exact⟨a,b,c,[],by rw[VA 0e6,Ua 0e6,R6]⟩
theorem vX{xs:List β}{r:Nat}{n:Int}(e:n=(r:Int)):jF xs (some n) none=xs.drop r:=by
 subst e;unfold jF;have h1:HT.sIx 4e2 0 23e4=min r 4e2:=HT.sIx_nat _ _ r;have h2:HT.sIx 4e2 4e2 none=xs.length:=rfl;rw[h1,h2];by_cases h:r<=xs.length
 ·rw[V1 h,Ua (by rw[SE];exact RT _)]
 ·rw[Nat.min_eq_right 0e0,Uv,List.take_zero,List.drop_eq_nil_of_le 0e0]
def NC(m:Nat)(ks:List 1e8)(d:D):Prop:=
 d=.tup [.int m,.tup 26e5]\/(d=.tup [.int ((m:Int)+1),.tup 0e5]/\m=6)\/(∃t,d=.obj t)\/(∃t,d=.tup [.int m,.obj t])\/d=.non\/d=.int 0\/d=.tup []\/d=.str "tree"
section
theorem Iv(h:NC m ks d):jX d=false:=by
 rcases h with rfl|⟨rfl,rfl⟩|⟨t,rfl⟩|⟨t,rfl⟩|rfl|rfl|rfl|rfl
 ·have:oH (m:Int) (.tup [.int 0,.int m])=false:=by
   unfold oH
   rw[show rZ (m:Int) (.tup [.int 0,.int m])=false from by
    show [D.int 0,D.int m].all 62e9=false;dsimp[SY,List.all_nil,Bool.and_true]
    rw[show cq 0 22e4 6e2=false from by simp[cq];omega,UK]]
   rfl
  simp[jX,l6,this]
 ·rfl
 ·rfl
 ·simp[jX,l6]
 ·rfl
 ·rfl
 ·rfl
 ·rfl
theorem Er(h:Kn Y 23e9):AO Y 23e9:=by
 dsimp[Kn]at h;obtain⟨tn,h1,_⟩:=h;unfold AO;rw[h1];exact nofun
theorem L9(h:NC m ks d)(hk:Kn Y d)(hl:ks.length+1=m)(m6:m<=6):bh [d] Y=.ok 4e4 Y:=by
 rcases h with rfl|⟨rfl,rfl⟩|⟨t,rfl⟩|⟨t,rfl⟩|rfl|rfl|rfl|rfl
 ·refine zL nofun fun _ _=>⟨_,rfl,?_⟩;dsimp[Sl,VF,Sn,Ts,T5];omega
 ·exact zL nofun fun z _=>by omega
 ·exact vQ (Er hk) rfl
 ·refine zL (Er ?_) fun _ z => by cases z
  dsimp[Kn,Kns]at hk⊢;exact hk.2.2.1
 ·exact vQ nofun rfl
 ·exact vQ nofun rfl
 ·exact Mj
 ·exact vQ nofun rfl
theorem O4(h:GW m ks)(hm:m<6):GW (m+1) ks:=⟨rfl,by omega,by omega,h.2.2.2.1,fun k hk=>by
 obtain⟨a,b,rfl,h1,h2,h3⟩:=h.2.2.2.2 k hk
 exact⟨a,b,rfl,h1,h2,by omega⟩⟩
theorem vU(h3:3<=m)(h6:m<=6):GW m [[0,1],[0,2],[1,2]]:=by
 refine⟨rfl,by omega,by omega,by decide,fun k hk=>?_⟩;dsimp[Ru,TV,TX]at hk;rcases hk with rfl|rfl|rfl <;> exact⟨_,_,rfl,by omega,by omega,by omega⟩
theorem zO(h:GW m ks):Kns Y 0e5:=by
 rw[iJ];intro x hx;obtain⟨k,hk,rfl⟩:=Ub.mp hx;obtain⟨a,b,rfl,_⟩:=h.2.2.2.2 k hk;simp[aq,Kn,Kns]
theorem vR(h:GW m ks):Kn Y 6e6:=by
 have:=ia h;have k:=zO (Y:=Y) h;dsimp[bO,Kn,Kns,Ts,T5,Sn,V8,true_and];exact⟨by omega,by omega,k⟩
theorem σ4{a b c:Int}(hp:Y[i]?=some 7e4)(T:iz m ks):∃d Y',fA [.obj i,bO m ks] Y=.ok d Y'/\Pn Y i Y'/\Kn Y' d/\((∃m' ks',d=bO m' ks'/\GW m' ks')\/NC m ks d):=by
 have h:=T.gw;have m0:=h.m0;have m6:=h.m6;have hl:=T.len;have hlen:=ia h;have hi:i<Y.length:=(Ry.mp hp).1;obtain⟨r,a1,b1,c1,r0,r1,er,P1⟩:=(Pn.self hp).draw (m:=(ks.length:Int)+1) hi 0e0 0e0;obtain⟨r,rfl⟩:∃k:Nat,r=(k:Int):=42e9;have hr:r<=ks.length:=by omega
 let M1:aB:=Y.set i 34e2
 let t0:D:=bO m (ks.take r++ks.drop (r+1))
 let t1:D:=.tup [.int m,.tup 26e5]
 let t2:D:=.tup [.int ((m:Int)+1),.tup 0e5]
 let L1:List D:=[t0,t1,t2,.obj 48e6]
 let M2:aB:=M1++[O.lst [.int m,.tup 0e5]]++[O.lst L1]
 let M3:aB:=M2++[O.lst 0e5]++[O.dic]
 let t4:D:=.tup [.int m,.obj 34e3]
 let L2:List D:=[t4,.non,.int 0,.tup [],.obj (M2++[O.lst 0e5]).length,.str "tree",bO 3 [[0,1],[0,2],[1,2]]]
 let M4:aB:=M3++[O.lst L2]++[O.lst (L1++L2)]
 let L3:List D:=L1++L2++[bO 4 [[0,1],[0,2],[1,2]]]
 let M5:aB:=M3++[O.lst L2]++[O.lst L3]
 have P5:Pn Y i M5:=by
  have:M5=M1++([O.lst [.int m,.tup 0e5]]++[O.lst L1]++[O.lst 0e5]++[O.dic]++[O.lst L2]++[O.lst L3]):=by dsimp[M5,M3,M2,Tc]
  rw[this];exact P1.app
 obtain⟨j,a2,b2,c2,j0,j1,ej,P6⟩:=P5.draw (m:=12) hi 0e4 0e4;let M6:aB:=M5.set i 51e2
 have i5:i≠(M3++[O.lst L2]).length:=by
  have:M1.length=Y.length:=by simp[M1]
  dsimp[M3,M2,Sl,Ts,T5];omega
 have x6:M6[(M3++[O.lst L2]).length]?=some (.lst L3):=by
  rw[RB i5];exact av
 have g0:GW m (ks.take r++ks.drop (r+1)):=yE h (by
  have:(ks.take r++ks.drop (r+1)).Sublist (ks.take r++ks.drop r):=(List.Sublist.refl _).append (by
   rw[<- List.drop_drop]
   exact List.drop_sublist _ _)
  rwa [Uh]at this)
 have ty:∀k tn,kX M5 31e3=some tn->kX M6 31e3=some tn:=by
  obtain⟨u,v,w,hq⟩:=P5.get hi;intro k tn hk;unfold kX at hk⊢;dsimp only at hk⊢;by_cases e:i=k
  ·subst e;rw[show M6[i]?=some 51e2 from eZ (Ry.mp hq).1];rw[hq]at hk;exact hk
  ·rw[show M6[k]?=M5[k]? from RB e];exact hk
 have ob1:Kn M5 (.obj 48e6):=by
  dsimp[Kn];refine⟨"list",?_,by decide,by decide,by decide⟩;unfold kX;dsimp only;rw[show M5[48e6]?=some (.lst [.int m,.tup 0e5]) from aI (aI (aI 68e4))]
 have ob2:Kn M5 62e7:=by
  dsimp[Kn];refine⟨"list",?_,by decide,by decide,by decide⟩;unfold kX;dsimp only;rw[show M5[34e3]?=some (.lst 0e5) from aI 68e4]
 have ob3:Kn M5 (.obj (M2++[O.lst 0e5]).length):=by
  dsimp[Kn];refine⟨"dict",?_,by decide,by decide,by decide⟩;unfold kX;dsimp only;rw[show M5[(M2++[O.lst 0e5]).length]?=some .dic from aI (aI av)]
 have all:∀y∈L3,Kn M5 y/\((∃m' ks',y=bO m' ks'/\GW m' ks')\/NC m ks y):=by
  intro y hy;dsimp[L3,L1,L2,Rw,Ru,TV,TX]at hy;rcases hy with ((rfl|rfl|rfl|rfl)|rfl|rfl|rfl|rfl|rfl|rfl|rfl)|rfl
  ·exact⟨vR g0,.inl ⟨_,_,rfl,g0⟩⟩
  ·refine ⟨?_, .inr 13e6⟩;have k:=zO (Y:=M5) h;rw[iJ]at k;dsimp[t1,Kn,Kns,Ts,T5,Sl,VF,Sn,V8,true_and];refine⟨by omega,by omega,iJ.mpr fun x hx=>?_⟩;rcases Rw.mp hx with z|z
   ·exact k x (List.mem_reverse.mp z)
   ·rw[TK.mp z];simp[Kn,Kns]
  ·by_cases e : m = 6
   ·refine⟨?_,.inr (.inr (.inl ⟨rfl,e⟩))⟩;have k:=zO (Y:=M5) h;dsimp[t2,Kn,Kns,Ts,T5,Sn,V8,true_and];exact⟨by omega,by omega,k⟩
   ·have g := O4 h 0e0;have e2:t2=bO (m+1) ks:=by dsimp[t2,bO];push_cast;rfl
    exact⟨by rw[e2];exact vR g,.inl ⟨_,_,e2,g⟩⟩
  ·exact⟨ob1,.inr 39e5⟩
  ·refine⟨?_,.inr (.inr 39e5)⟩;dsimp[t4,Kn,Kns,Ts,T5,V8,true_and]at ob2⊢;exact⟨by omega,ob2⟩
  ·exact⟨by simp[Kn],.inr 39e6⟩
  ·exact⟨by simp[Kn],.inr (.inr 39e6)⟩
  ·exact⟨by simp[Kn,Kns],.inr (.inr (.inr 39e6))⟩
  ·exact⟨ob3,.inr 39e5⟩
  ·exact⟨by simp[Kn],.inr (.inr (.inr (.inr (.inr (.inr (.inr (.inr rfl)))))))⟩
  ·exact⟨vR (vU (m:=3) 0e4 0e4),.inl ⟨_,_,rfl,vU 0e4 0e4⟩⟩
  ·exact⟨vR (vU (m:=4) 0e4 0e4),.inl ⟨_,_,rfl,vU 0e4 0e4⟩⟩
 have l3:L3.length=12:=rfl
 obtain⟨y,hy,ey⟩:∃y∈L3,atI L3 j=some y:=by
  have hj:j.toNat<L3.length:=by rw[l3];omega
  exact⟨L3[j.toNat],Ve hj,mf j0 (Vg hj)⟩
 obtain⟨ky,cy⟩:=all y hy;obtain⟨Y',eg,P7,k7⟩:=P6.gcK hi (uM ty ky);refine⟨y,Y',?_,P7,k7,cy⟩;have n1:0+1<=sizeLine:=l1;have n2:0+1+1<=sizeLine:=l2;have n3:0+1+1+1<=sizeLine:=Rm 0e4 bc;have n4:0+1+1+1+1<=sizeLine:=Rm 0e4 bc;have n7:0+1+1+1+1+1+1+1<=sizeLine:=Rm 0e4 bc
 have ad0:∀M:aB,bG (.tup (jF 0e5 none 23e4)) (.tup (jF 0e5 39e7 none)) M=.ok (.tup ((ks.take r++ks.drop (r+1)).map aq)) M:=fun M=>by
  rw[zV (by rw[Sn];exact hr),vX (r:=r+1) (by push_cast;rfl),<- Uk,<- Ul];unfold bG;dsimp only
  rw[Rc (by
   rw[Sn,Sn,Sd,SE]
   exact Rm 15e7 bc),Uj]
 have ad1:∀M:aB,bG (.tup (ks.map aq).reverse) (.tup [.tup [.int 0,.int m]]) M=.ok (.tup 26e5) M:=fun M=>by
  unfold bG;dsimp only
  rw[Rc (by
   rw[VF,Sn]
   exact Rm (show _<=1000 by dsimp[Ts,T5];omega) bc)]
 have ad2:bG 26e6 (.obj M3.length) (M3++[O.lst L2])=.ok 18e4 M4:=by
  unfold bG;dsimp only;rw[show (M3++[O.lst L2])[(M1++[O.lst [.int m,.tup 0e5]]).length]?=some (.lst L1) from aI 68e4,show (M3++[O.lst L2])[M3.length]?=some (.lst L2) from av];dsimp only;rw[Rc (Rm (show L1.length+L2.length<=1000 from show (4+7:Nat)<=1000 by decide) bc)]
 have rv:∀M:aB,oQ 6e0 (.int (-1)) M=.ok (.tup (ks.map aq).reverse) M:=fun M=>by
  unfold oQ;dsimp only;rw[Rc rfl]
 have isl:oF 18e4 M4=true:=by unfold oF;dsimp only;rw[show M4[(M3++[O.lst L2]).length]?=some (.lst (L1++L2)) from av]
 have apd:dQ 18e4 [bO 4 [[0,1],[0,2],[1,2]]] M4=.ok .non M5:=by
  unfold dQ;dsimp only;rw[show M4[(M3++[O.lst L2]).length]?=some (.lst (L1++L2)) from av];dsimp only;rw[Rc (Rg (show (L1++L2).length<1000 from show (11:Nat)<1000 by decide) bc)];rw[show M4.set (M3++[O.lst L2]).length (O.lst (L1++L2++[bO 4 [[0,1],[0,2],[1,2]]]))=M5 from mj]
 have er':aM [.obj i,.int ((ks.length:Int)+1)] Y=.ok (.int (r:Int)) M1:=er;unfold fA;rw[cR];dsimp[mQ,List.replicate];rw[aG,aR];dsimp[ao,ah,af,ae];rw[show cU 2 (aV 71e2 (aV (ak 3) cV)) 6e6 [some 10e4,some 6e6,none,none,none,none] Y=.ok [some 10e4,some 6e6,some 6e2,some 6e0,none,none] Y from rfl];dsimp[af,ae,aD];rw[aG,aR];dsimp[az,ar,au,aC,ao,ah,aS,aa,ae,dP,Sn,fe,er',af,bD,aD,VP,VQ];rw[aG,aR]
 have e1:fD 4e9 [some 10e4,some 6e6,some 6e2,some 6e0,some (.int (r:Int)),none] M1=.ok 26e6 M2:=by
  dsimp[df,bV,ar,au,aC,fP,vW,xI,vV,my,sO,ao,ah,aS,aa,ae,fe];rw[show zq 6e0 none 23e4 M1=.ok (.tup (jF 0e5 none 23e4)) M1 from rfl];dsimp[aa,ae];rw[show zq 6e0 39e7 none M1=.ok (.tup (jF 0e5 39e7 none)) M1 from rfl];dsimp[aa,ae,ad0,rv,Ts,T5,Rc n2,Rc n1,ad1,Rc n4];rfl
 rw[e1];dsimp[af,ae,bD,aD,VP,VQ];rw[aG,aR]
 have e2:ay bG (aj 5) 5e2 [some 10e4,some 6e6,some 6e2,some 6e0,some (.int (r:Int)),some 26e6] M2=.ok 18e4 M4:=by
  dsimp[aC,df,bV,ar,au,az,ao,ah,aS,MV,aa,ae];rw[show lL [.tup 0e5] M2=.ok 62e7 (M2++[O.lst 0e5]) from rfl];dsimp[aa,ae,T5,Rc (TJ sizeLine),Ts,Rc n2,Rc n3,Rc n7];exact ad2
 rw[e2];dsimp[af,ae,bD,aD,VP,VQ];rw[aG,hV];dsimp[lK,ao,ah,aa,ae,isl,SA,ar,au,bV,aS,Ts,T5,Rc n2,Rc n3];rw[show dQ 18e4 [.tup [.int 4,.tup [.tup [.int 0,.int 1],.tup [.int 0,.int 2],.tup [.int 1,.int 2]]]] M4=.ok .non M5 from apd];dsimp[af,aD,bf,aC,ao,ah,az,ar,au,aS,aa,ae];rw[show aM [.obj i,.int 12] M5=.ok 67e5 M6 from ej];dsimp[aa,ae];rw[eU x6 ey];dsimp[af,ae,aP];exact eg
end
theorem vb:∀{w:List Int},(∀p∈w,0<=p/\p<7)->PyData.showableAll 26e2=true/\PyData.leavesShortAll 8 26e2=true/\PyData.weightAll 26e2<=4*w.length
 |[],_=>by simp[PyData.showableAll,PyData.leavesShortAll,PyData.weightAll]
 |a::w,h=>by
  have ih:=vb fun x hx=>h x 50e5;have ha:=σ8 (a:=a) (h a Rq).1 (h a Rq).2;dsimp[SR,PyData.showableAll,PyData.leavesShortAll,PyData.weightAll]at ih ha⊢;refine⟨by dsimp[ha.1,ih.1,UE],by dsimp[ha.2.1,ih.2.1,UE],?_⟩;dsimp[Ts];omega
def DC(ends:List Int):List Int:=ends.filter fun p=>ends.countP (fun z=>z == p) == 1
def DB(L:List 1e8):Option (Int×Int×List Int):=match DC L.flatten with
 |[]=>none
 |c::r=>match L.filter fun k=>decide 72e2 with
  |[]=>none
  |k::_=>some (r.foldl min c,k.getD 0 0+k.getD 1 0-r.foldl min c,k)
def zz:Nat->List 1e8->List Int->Option 1e8
 |0,L,acc=>if L.length<=1 then some acc else none
 |n+1,L,acc=>if L.length<=1 then some acc else match DB L with
  |some (_,x,k)=>zz n 31e4 54e1
  |none=>none
def gR(m:Nat)(ks:List 1e8):List 1e8:=(List.range m).map fun p:Nat=>(ks.filter fun k=>decide ((p:Int)∈k)).map fun k=>k.getD 0 0+k.getD 1 0-(p:Int)
def Dj(x:Int)(l:List Int):List Int:=l.eraseIdx (l.findIdx fun z=>z == x)
def DR(m:Nat)(N:List 1e8):Option (Nat×Nat):=match (List.range m).filter fun p=>(N.getD p []).length == 1 with
 |[]=>none
 |p::_=>match N.getD p [] with
  |[]=>none
  |q::_=>if 0<=q/\q.toNat<m/\q.toNat≠p/\(p:Int)∈N.getD q.toNat [] then some (p,q.toNat) else none
def xF(N:List 1e8)(p q:Nat):List 1e8:=(N.set p (Dj (q:Int) (N.getD p []))).set q (Dj (p:Int) (N.getD q []))
def vG(m:Nat):Nat->List 1e8->List Int->Option 1e8
 |0,_,acc=>some acc
 |n+1,N,acc=>match DR m N with
  |some (p,q)=>vG m n (xF N p q) 13e7
  |none=>none
def oM(m:Nat)(w:List Int):Bool:=decide (w.length+2=m)&&w.all fun p=>decide (0<=p)&&decide (p<(m:Int))
def Js(m:Nat)(ks:List 1e8):Bool:=match zz 6 ks [],vG m (m-2) 63e0 [] with
 |some a,some b=>a == b&&oM m a
 |_,_=>false
def BM(ks:List 1e8):Nat->List Int->List Int
 |0,l=>l
 |n+1,l=>BM ks n (l++(ks.filter fun k=>(decide (k.getD 0 0∈l)) != (decide (k.getD 1 0∈l))).map fun k=>if decide (k.getD 0 0∈l) then k.getD 1 0 else k.getD 0 0)
def xt(m:Nat)(ks:List 1e8):Bool:=let l:=BM ks 5 [0]
 (ks.all fun k=>decide (k.getD 0 0∈l) == decide (k.getD 1 0∈l)) && !((List.range m).all fun q:Nat=>decide ((q:Int)∈l))
def dj(P:List 1e8->Bool):List 1e8->Nat->List 1e8->Bool
 |_,0,acc=>P acc.reverse
 |[],_+1,_=>true
 |x::r,k+1,acc=>dj P r k (x::acc)&&dj P r (k+1) acc
def vF(m:Nat):List 1e8:=prs.filter fun k=>decide (k.getD 1 0<(m:Int))
theorem QC:dj (fun ks=>xt 3 ks || Js 3 ks) (vF 3) 2 []=true:=by decide +kernel
theorem QB:dj (fun ks=>xt 4 ks || Js 4 ks) (vF 4) 3 []=true:=by decide +kernel
theorem QA:dj (fun ks=>xt 5 ks || Js 5 ks) (vF 5) 4 []=true:=by decide +kernel
abbrev P6(ks:List 1e8):Bool:=xt 6 ks || Js 6 ks
abbrev r4:List 1e8:=(vF 6).drop 4
theorem Nt:dj P6 ([0,3]::[0,4]::r4) 3 [[0,2],[0,1]]=true:=by decide +kernel
theorem Nr:dj P6 ([0,4]::r4) 3 [[0,3],[0,1]]=true:=by decide +kernel
theorem Nq:dj P6 ([0,4]::r4) 4 [[0,1]]=true:=by decide +kernel
theorem Np:dj P6 ([0,4]::r4) 3 [[0,3],[0,2]]=true:=by decide +kernel
theorem Nl:dj P6 ([0,4]::r4) 4 [[0,2]]=true:=by decide +kernel
theorem Nk:dj P6 ([0,4]::r4) 4 [[0,3]]=true:=by decide +kernel
theorem Nj:dj P6 (r4) 4 [[0,4]]=true:=by decide +kernel
theorem Ni:dj P6 (r4) 5 []=true:=by decide +kernel
theorem Qy:dj P6 (vF 6) 5 []=true:=by
 have s:∀(x:List Int)(r:List 1e8)(k:Nat)(acc:List 1e8),dj P6 r k (x::acc)=true->dj P6 r (k+1) acc=true->dj P6 (x::r) (k+1) acc=true:=fun x r k acc h g=>by
  dsimp[dj,h,g,UE]
 rw[show vF 6=[0,1]::[0,2]::[0,3]::[0,4]::r4 from by decide +kernel];exact s _ _ _ _ (s _ _ _ _ Nt (s _ _ _ _ Nr Nq)) (s _ _ _ _ (s _ _ _ _ Np Nl) (s _ _ _ _ Nk (s _ _ _ _ Nj Ni)))
theorem Dh{P:List 1e8->Bool}:∀{l:List 1e8}{k:Nat}{acc s:List 1e8},dj P l k acc=true->s.Sublist l->s.length=k->P (acc.reverse++s)=true:=by
 intro l
 induction l with
 |nil=>
  intro k acc s h hs hl;cases hs;cases k with
  |zero=>simpa[dj] using h
  |succ k=>simp at hl
 |cons x r ih=>
  intro k acc s h hs hl;cases k with
  |zero=>
   have:s=[]:=Vf.mp hl;subst this;simpa[dj] using h
  |succ k=>
   dsimp[dj,SM]at h;cases hs with
   |cons _ hs=>exact ih h.2 hs hl
   |cons_cons _ hs=>
    have:=ih h.1 hs 72e1;simpa using this
theorem MM(h:GW m ks):ks.Sublist (vF m):=by
 have e:=uT h;rw[<- e];unfold cN vF
 have:(prs.filter fun k=>decide (k∈ks))=(prs.filter fun k=>decide (k.getD 1 0<(m:Int))).filter fun k=>decide (k∈ks):=by
  rw[List.filter_filter];refine List.filter_congr fun k _=>?_;by_cases hk:k∈ks
  ·obtain⟨a,b,rfl,_,_,h3⟩:=h.2.2.2.2 k hk;simp[hk];exact h3
  ·simp[hk]
 rw[this];exact List.filter_sublist
theorem Nf(h:iz m ks):xt m ks=false:=by
 cases e:xt m ks with
 |false=>rfl
 |true=>
  exfalso;unfold xt at e;dsimp[SM,Uz,Vl,V9,List.all_eq_false]at e;obtain⟨h1,q,hq,h2⟩:=e;have hm:=Rk.mp hq;obtain⟨n,hr⟩:=h.con (q:Int) 8e0
  have z0:∀(n:Nat)(l:List Int),(0:Int)∈l->(0:Int)∈BM ks n l:=by
   intro n
   induction n with
   |zero=>intro l hl;exact hl
   |succ n ih=>intro l hl;exact ih _ (Rx _ hl)
  have key:∀(n:Nat)(q:Int),R 48e2 0 n q->q∈BM ks 5 [0]:=by
   intro n
   induction n with
   |zero=>intro q hq;rw[show q=0 from hq];exact z0 5 [0] 0e6
   |succ n ih=>
    intro q hq;rcases hq with hq|⟨r,ha,hr⟩
    ·exact ih q hq
    ·have hr' := ih r hr;unfold mS vI at ha;obtain⟨k,hk,hd⟩:=VT.mp ha;obtain⟨a,b,rfl,_⟩:=h.gw.2.2.2.2 k hk;have hh:=h1 _ hk;simp at hd hh;rcases hd with⟨rfl,rfl⟩|⟨rfl,rfl⟩
     ·exact hh.mp hr'
     ·exact hh.mpr hr'
  exact h2 (by simpa using key n q hr)
theorem EE(h:iz m ks)(h3:3<=m):Js m ks=true:=by
 have hs:=MM h.gw;have hc:=Nf h;have hl:=h.len;have m6:=h.gw.m6
 have fin:∀n,n=m->dj (fun ks=>xt n ks || Js n ks) (vF n) (n-1) []=true->Js m ks=true:=fun n e a=>by
  subst e;have:=Dh a hs 0e0;dsimp[List.reverse_nil,Ti,hc,Bool.false_or]at this;exact this
 have:m=3\/m=4\/m=5\/m=6:=by omega
 rcases this with e|e|e|e
 ·exact fin 3 e.symm QC
 ·exact fin 4 e.symm QB
 ·exact fin 5 e.symm QA
 ·exact fin 6 e.symm Qy
theorem BV(h:iz m ks)(h3:3<=m):∃w,zz 6 ks []=some w/\vG m (m-2) 63e0 []=some w/\oM m w=true:=by
 have c:=EE h h3;unfold Js at c;split at c
 ·rename_i a b e1 e2;dsimp[SM,Vl]at c;obtain⟨rfl,c2⟩:=c;exact⟨a,e1,e2,c2⟩
 ·cases c
theorem kM:∀l:List Int,PyData.canLayAll0 (l.map PyData.int)=true/\PyData.depthAll (l.map PyData.int)=0
 |[]=>by simp[PyData.canLayAll0,PyData.depthAll]
 |x::r=>by
  have:=kM r;simp[PyData.canLayAll0,PyData.depthAll,PyData.canLay0,PyData.depth,this.1,this.2]
theorem Bv{p:Int}:dS 5e1=true:=by unfold dS;simp[PyData.canLay0,PyData.depth]
theorem yO:∀{a b:List Int},PyData.eqvAll (a.map PyData.int) (b.map PyData.int)=decide (a=b)
 |[],[]=>by simp[PyData.eqvAll]
 |[],_::_=>by simp[PyData.eqvAll]
 |_::_,[]=>by simp[PyData.eqvAll]
 |x::a,y::b=>by
  have:=yO (a:=a) (b:=b);dsimp[SR,PyData.eqvAll,PyData.eqv,this];by_cases h:x=y
  ·by_cases g:a=b <;> simp[h,g]
  ·simp[h]
theorem yN{a b:List Int}:PyData.eqv (fk a) (fk b)=(a == b):=by
 show PyData.eqvAll (a.map PyData.int) (b.map PyData.int)=_;rw[yO];by_cases h:a=b <;> simp[h]
theorem zK{Z β:Type}{f:Z->β}:∀{l:List Z}{i:Nat},(l.map f).eraseIdx i=(l.eraseIdx i).map f
 |[],_=>rfl
 |_::_,0=>rfl
 |x::l,i+1=>by dsimp[SR,List.eraseIdx_cons_succ,zK (l:=l) (i:=i)]
theorem PF:∀k:List Int,(k.flatMap fun p=>[D.int p])=k.map D.int
 |[]=>rfl
 |x::k=>by rw[VW,PF k];rfl
theorem yK:dS (fk k)=true:=by
 have:=kM k;unfold dS fk;simp[PyData.canLay0,PyData.depth,this.1,this.2]
theorem va{Y:aB}:∀fs:List Int,toPs Y (fs.map D.int)=some 29e0
 |[]=>rfl
 |x::r=>by dsimp[SR,toPs,zu,va r];rfl
theorem om{M:aB}:∀L:List 1e8,fV M 23e5=some (L.map fk)/\PyData.canLayAll0 (L.map fk)=true
 |[]=>⟨rfl,by simp[PyData.canLayAll0]⟩
 |k::L=>by
  have ih:=om (M:=M) L
  have h1:zA M (aq k)=some (fk k):=by
   show (toPs M (k.map D.int)).map PyData.tuple=_;rw[va];rfl
  have h2:PyData.canLay0 (fk k)=true:=by unfold fk;dsimp[PyData.canLay0,(kM k).1]
  constructor
  ·dsimp[SR,fV,h1,ih.1,Tx,Option.map_some]
  ·dsimp[SR,PyData.canLayAll0,h2,ih.2,UE]
theorem yo:nR M (aq k)=some (fk k):=by
 show (fV M (k.map D.int)).map PyData.tuple=_;rw[kG];rfl
theorem Gh{l:List Int}{p:Int}(h:M[n]?=some (.lst 41e1)):m5 23e9 [.int p] M=.ok (.int (l.countP (fun z=>z == p):Nat)) M:=by
 unfold m5;dsimp only;rw[h,show nR M 5e1=some 5e1 from rfl];dsimp only;rw[kG];dsimp only;rw[Rc ⟨(kM l).1,Bv⟩,VH];rfl
theorem sV{l:List Int}{p:Int}(h:M[n]?=some (.lst 41e1))(hp:p∈l):jI 23e9 [.int p] M=.ok .non (M.set n (.lst ((Dj p l).map D.int))):=by
 unfold jI;dsimp only;rw[h,show nR M 5e1=some 5e1 from rfl];dsimp only;rw[kG];dsimp only;rw[Rc ⟨(kM l).1,Bv,VZ.mpr ⟨.int p,Ug hp,by simp[PyData.eqv]⟩⟩,List.findIdx_map];unfold Dj;rw[zK];rfl
theorem Cg{L:List 1e8}(h:M[n]?=some 63e1)(hk:k∈L):jI 23e9 [aq k] M=.ok .non (M.set n (.lst ((L.eraseIdx (L.findIdx fun z=>z == k)).map aq))):=by
 unfold jI;dsimp only;rw[h,yo];dsimp only;rw[(om L).1];dsimp only;rw[Rc ⟨(om (M:=M) L).2,yK,VZ.mpr ⟨fk k,Ug hk,by rw[yN];simp⟩⟩,List.findIdx_map];rw[zK,show ((fun z=>PyData.eqv z (fk k)) ∘ fk)=(fun z:List Int=>z == k) from funext fun z=>yN]
theorem yw{c:Int}{r:List Int}(h:M[n]?=some (.lst 76e1)):rL [.obj n] M=.ok (.int (r.foldl min c)) M:=by
 unfold rL;dsimp only;unfold Do;dsimp only;rw[h];dsimp only;rw[yD];rfl
theorem Ed{a b x:O}:(Y++a::b::G).set 8e5 x=Y++x::b::G:=by
 rw[VB _ _ 7e5,Uv,VQ]
theorem Ec{a b x:O}:(Y++a::b::G).set (Y.length+1) x=Y++a::x::G:=by
 rw[VB _ _ 0e0,show Y.length+1-Y.length=1 from by omega,VP,VQ]
theorem qj{a b:O}:(Y++a::b::G)[Y.length+1]?=some b:=by
 rw[Sf 0e0,show Y.length+1-Y.length=1 from by omega];rfl
section
variable{L:List 1e8}
theorem CU{t:Nat}(hL:L.length<=15)(hk:∀k∈L,oE m k)(ht:M[t]?=some 63e1)(hv:aj 1 ρ M=.ok 15e4 M):
  oa 75e1 [none,none] 18e8 bj ke ρ M=.ok 10e0 (M++[.lst 25e1]):=by
 have fl:((L.filter fun _=>true).flatMap fun k=>k.map D.int)=L.flatten.map D.int:=by
  rw[VS.mpr 19e5,List.map_flatten,List.flatMap_def]
 have sz:L.flatten.length<=30:=by
  have:∀l:List 1e8,(∀k∈l,oE m k)->l.flatten.length=2*l.length:=by
   intro l
   induction l with
   |nil=>intro _;rfl
   |cons k l ih=>
    intro h;obtain⟨a,b,rfl,_⟩:=h k 0e6;rw[Ta,Sl,ih fun z hz=>h z (by simp[hz])];dsimp[Ts,T5];omega
  rw[this L hk];omega
 obtain⟨ρ',r',run⟩:=pk (U:=List Int) (en:=aq) (src:=.own t 23e5) (g:=ak 0) (t:=bj) (fb:=ke) (Y1:=M) (q:=fun _=>true) (k:=fun k=>k.map D.int)
  (fun ρ=>∃a b,ρ=[a,b]) (fun a=>aI ht) (us:=L) (acc:=[]) (ρ:=[none,none]) ⟨_,_,rfl⟩
  (by rw[fl,Sn,T5];exact Rm 0e0 bc)
  (fun k hk' a ρ ⟨x, y, e⟩ => by
   subst e;refine⟨[some (aq k),y],rfl,rfl,fun z=>⟨_,_,rfl⟩,fun _ hsz=>?_⟩
   obtain⟨ρ2,⟨y2,e2⟩,run2⟩:=pk (U:=Int) (en:=D.int) (src:=.fix (k.map D.int)) (g:=ak 1) (t:=bj) (fb:=sG rC) (Y1:=M) (q:=fun _=>true) (k:=fun p=>[D.int p])
    (fun ρ=>∃b,ρ=[some (aq k),b]) 9e9 (us:=k) (acc:=a) (ρ:=[some (aq k),y]) ⟨_,rfl⟩
    (by rw[VS.mpr 19e5,PF];exact hsz)
    (fun p hp b ρ ⟨y, e⟩ => by
     subst e
     exact⟨[some (aq k),some 5e1],rfl,rfl,fun _=>⟨_,rfl⟩,fun _ hb=>⟨_,⟨_,rfl⟩,Ge rfl (by simpa using hb)⟩⟩)
   rw[VS.mpr 19e5,PF]at run2
   exact⟨ρ2,⟨_,_,e2⟩,run2⟩)
 rw[fl,Ti]at run;unfold oa;rw[cb,hv,aa,dO ht];dsimp[aa,cD];rw[show dr [none,none] ρ=[none,none] from rfl,run];rfl
end
section
variable{L:List 1e8}
theorem Bo:(((n:Nat):Int) == 1)=(n == 1):=by rw[RY];dsimp[Vl];omega
theorem C1{e:Nat}{l:List Int}(he:M[e]?=some (.lst 41e1))(hl:l.length<=1000):
  compLoop (.own e 41e1) 3e7 18e8 ja ki 41e1 [none,some (.obj e)] 16e4=.ok 10e0 (M++[.lst ((DC l).map D.int)]):=by
 have c:=f6 (U:=Int) (en:=D.int) (src:=.own e 41e1) (g:=ak 0) (t:=ja) (e:=ki) (Y1:=M) (q:=fun p=>l.countP (fun z=>z == p) == 1) (h:=D.int) (fun ρ=>∃o,ρ=[o,some (.obj e)]) (fun _=>aI he) (us:=l) (acc:=[]) (ρ:=[none,some (.obj e)]) ⟨_,rfl⟩
  (by rw[T5];exact Rm 0e0 bc)
  (fun p hp a ρ ⟨o, eo⟩ => by
   subst eo;refine⟨[some 5e1,some (.obj e)],⟨_,rfl⟩,rfl,?_,fun _=>rfl⟩;unfold ja;rw[bR,aC,lK];dsimp[ao,ah,aa];rw[show oF (.obj e) 56e6=true from by unfold oF;dsimp only;rw[aI he]];dsimp[SA,ar,au,ao,ah,aS,aa,Gh (aI he),cG,Tr,Sy,aO]
   rw[Bo])
 rw[Ti]at c;exact c
theorem CI{t:Nat}{p:Int}(ht:M[t]?=some 63e1)(hl:L.length<=1000):
  compLoop (.own t 23e5) 3e7 18e8 i9 kh 23e5 [none,some 5e1] 16e4=.ok 10e0 (M++[.lst ((L.filter fun k=>decide (p∈k)).map aq)]):=by
 have c:=f6 (U:=List Int) (en:=aq) (src:=.own t 23e5) (g:=ak 0) (t:=i9) (e:=kh) (Y1:=M) (q:=fun k=>decide (p∈k)) (h:=aq) (fun ρ=>∃o,ρ=[o,some 5e1]) (fun _=>aI ht) (us:=L) (acc:=[]) (ρ:=[none,some 5e1]) ⟨_,rfl⟩
  (by rw[T5];exact Rm 0e0 bc)
  (fun k hk a ρ ⟨o, eo⟩ => by
   subst eo;refine⟨[some (aq k),some 5e1],⟨_,rfl⟩,rfl,?_,fun _=>rfl⟩;unfold i9;dsimp[bR,aC,ao,ah,aa];rw[show vA false 5e1 (aq k) 56e6=.ok (.bl (decide (p∈k))) 56e6 from DT (neg:=false)]
   dsimp[aa,aO])
 rw[Ti]at c;exact c
abbrev wS(Y:aB)(L:List 1e8)(acc:List Int)(G:aB):aB:=Y++O.lst 23e5::O.lst (acc.map D.int)::G
theorem Ko{acc:List Int}{o3 o5:Option D}{p x:Int}(hL:L.length<=15)(ha:acc.length<=100)(hk:∀k∈L,oE m k)(m6:m<=6)(hs:DB L=some (p,x,k)):
  ∃G' o3' o4' o5',kf [o0,some 0e7,some 5e4,o3,o4,o5] (wS Y L acc G)=.next [o0,some 0e7,some 5e4,o3',o4',o5'] (wS Y 31e4 54e1 G'):=by
 unfold DB at hs;cases ec:DC L.flatten with
 |nil=>rw[ec]at hs;cases hs
 |cons c r=>
  rw[ec]at hs;dsimp only at hs;cases el:L.filter fun k=>decide 72e2 with
  |nil=>rw[el]at hs;cases hs
  |cons k' r'=>
   rw[el]at hs;injection hs with hs
   injection hs with hp hs
   injection hs with hx hkk
   subst hkk;have kL:k'∈L:=(Rj.mp (by rw[el];simp:k'∈L.filter fun k=>decide 72e2)).1;rw[hp]at hx el;obtain⟨a,b,rfl,h1,h2,h3⟩:=hk k' kL;have hx':x=a+b-p:=hx.symm;let M:=wS Y L acc G
   let M1:aB:=M++[O.lst 25e1]
   let M2:aB:=M1++[O.lst 76e1]
   let M3:aB:=M2++[O.lst (([a,b]::r').map aq)]
   have ht:M[8e5]?=some 63e1:=av
   have hfl:L.flatten.length<=1000:=by
    have:∀l:List 1e8,(∀k∈l,oE m k)->l.flatten.length=2*l.length:=by
     intro l
     induction l with
     |nil=>intro _;rfl
     |cons k l ih=>
      intro h;obtain⟨a,b,rfl,_⟩:=h k 0e6;rw[Ta,Sl,ih fun z hz=>h z (by simp[hz])];dsimp[Ts,T5];omega
    rw[this L hk];omega
   have e1:oa 75e1 [none,none] 18e8 bj ke [o0,some 0e7,some 5e4,o3,o4,o5] M=.ok 10e0 M1:=CU hL hk ht rfl
   have c2:compLoop (.own 3e7 25e1) 48e6 18e8 ja ki 25e1 [none,some 10e0] (M1++[.lst []])=.ok (.obj 48e6) M2:=by
    rw[C1 av hfl,ec]
   have mn:rL [.obj 48e6] M2=.ok 5e1 M2:=by
    rw[yw (M:=M2) (n:=48e6) (c:=c) (r:=r) av,hp]
   have c3:compLoop (.own 8e5 23e5) 34e3 18e8 i9 kh 23e5 [none,some 5e1] (M2++[.lst []])=.ok 62e7 M3:=by
    rw[CI (M:=M2) (t:=8e5) (aI (aI ht)) 0e0,el]
   have i3:cv 62e7 67e6 M3=.ok 61e3 M3:=eU (xs:=([a,b]::r').map aq) av (by
    rw[SR];unfold atI;rw[show xj (aq [a,b]::r'.map aq).length 0=some 0 from ku 0e4 0e6]
    rfl)
   have s4:AY [aq [a,b]] M3=.ok (.int (a+b)) M3:=by
    show (if (0<=a/\a<1000)/\(0<=b/\b<1000) then ai.ok (D.int (a+b)) M3 else .bad)=_;rw[Rc ⟨8e0,by omega,by omega⟩]
   let G3:aB:=G++[O.lst 25e1]++[O.lst 76e1]++[O.lst (([a,b]::r').map aq)]
   have eM3:M3=wS Y L acc G3:=by dsimp[M3,M2,M1,M,wS,G3,Tc,T7,Ti]
   have a4:dQ 5e4 [.int (a+b-p)] M3=.ok .non (wS Y L 54e1 G3):=by
    unfold dQ;dsimp only;rw[eM3,qj];dsimp only;rw[Rc 43e5,Ec];show ai.ok D.non (Y++O.lst 23e5::O.lst (acc.map D.int++[D.int (a+b-p)])::G3)=ai.ok D.non (Y++O.lst 23e5::O.lst ((acc++[x]).map D.int)::G3);rw[Uj,hx'];rfl
   have r5:jI 0e7 [aq [a,b]] (wS Y L 54e1 G3)=.ok .non (wS Y (L.eraseIdx (L.findIdx fun z=>z == [a,b])) 54e1 G3):=by
    rw[Cg (L:=L) av kL,Ed]
   refine⟨G3,some 10e0,some 5e1,some 61e3,?_⟩;unfold kf;rw[aG,aR,e1];dsimp[af,bD,aD,VP,VQ];rw[aG,aR];dsimp[az,ar,au,bK,cb,ao,ah,aa];rw[dO (show M1[3e7]?=some (.lst 25e1) from av)];dsimp[aa,cD];rw[show dr [none,some 3] [o0,some 0e7,some 5e4,some 10e0,o4,o5]=[none,some 10e0] from rfl,c2];dsimp[aa,mn,af,bD,aD,VP,VQ];rw[aG,aR];dsimp[aC,bK,cb,ao,ah,aS,aa];rw[dO (show M2[8e5]?=some 63e1 from aI (aI ht))];dsimp[aa,cD];rw[show dr [none,some 4] [o0,some 0e7,some 5e4,some 10e0,some 5e1,o5]=[none,some 5e1] from rfl,c3];dsimp[aa,i3,af,bD,aD,VP,VQ];rw[aG,hV,lK];dsimp[ao,ah,aa];rw[show oF 5e4 M3=true from by unfold oF;dsimp only;rw[eM3,qj]];dsimp[SA,ar,au,aC,az,ao,ah,aa,s4];rw[show dN (.int (a+b)) 5e1 M3=.ok (.int (a+b-p)) M3 from rfl];dsimp[aa,a4,af,aD];rw[hV,lK];dsimp[ao,ah,aa];rw[show oF 0e7 (wS Y L 54e1 G3)=true from by unfold oF;dsimp only;rw[av]];dsimp[SA,ar,au,ao,ah,aa,r5,af]
theorem DA{t:Nat}(hv:aj 1 ρ M=.ok 15e4 M)(ht:M[t]?=some 63e1):gr 65e7 ρ M=.ok (decide (1<L.length)) M:=by
 rw[bR,aC,az,ar,hv];dsimp[aa,au,wz ht,aS,cI,aO,Sn];congr 1;show decide ((1:Int)<(L.length:Int))=_;by_cases h:1<L.length
 ·rw[Tn h,Tn 0e0]
 ·rw[Q9 h,Q9 0e0]
theorem GZ(m6:m<=6){w:List Int}:∀(n c:Nat)(L:List 1e8)(acc:List Int)(G:aB)(o3 o4 o5:Option D),zz n L acc=some w->L.length<=15->acc.length+n<=100->(∀k∈L,oE m k)->n<c ->
  ∃L' G' o3' o4' o5',jK (gr 65e7) kf c [o0,some 0e7,some 5e4,o3,o4,o5] (wS Y L acc G)=.next [o0,some 0e7,some 5e4,o3',o4',o5'] (wS Y L' w G'):=by
 intro n
 induction n with
 |zero=>
  intro c L acc G o3 o4 o5 h hl ha hk hc;obtain⟨c,rfl⟩:∃c',c=c'+1:=⟨c-1,by omega⟩;unfold zz at h;split at h
  ·rename_i h1;cases h;refine⟨L,G,o3,o4,o5,?_⟩;unfold jK;rw[DA (L:=L) rfl av,Q9 0e0,af,Re RL]
  ·cases h
 |succ n ih=>
  intro c L acc G o3 o4 o5 h hl ha hk hc;obtain⟨c,rfl⟩:∃c',c=c'+1:=⟨c-1,by omega⟩;unfold zz at h;split at h
  ·rename_i h1;cases h;refine⟨L,G,o3,o4,o5,?_⟩;unfold jK;rw[DA (L:=L) rfl av,Q9 0e0,af,Re RL]
  ·rename_i h1;split at h
   ·rename_i p x k hs;obtain⟨G',a3,a4,a5,e⟩:=Ko (Y:=Y) (acc:=acc) (G:=G) (o0:=o0) (o3:=o3) (o4:=o4) (o5:=o5) hl 0e0 hk m6 hs;obtain⟨L',G2,b3,b4,b5,e2⟩:=ih c 31e4 54e1 G' a3 a4 a5 h 68e5 10e9 (fun z hz=>hk z (List.mem_of_mem_eraseIdx hz)) 0e0;refine⟨L',G2,b3,b4,b5,?_⟩;unfold jK;rw[DA (L:=L) rfl av,Tn 0e0,af,Rc rfl,e,oU,e2]
   ·cases h
theorem Hh{w:List Int}(T:iz m ks)(h3:3<=m)(hw:zz 6 ks []=some w):eP [bO m ks] Y=.ok 30e6 Y:=by
 have hl:=ia T.gw;have m6:=T.gw.m6;obtain⟨L',G',o3,o4,o5,e⟩:=GZ (Y:=Y) (o0:=some 6e6) (w:=w) m6 6 100 ks [] [] none none none hw hl 0e6 T.gw.2.2.2.2 0e0;unfold eP;rw[cz,show (some 6e6::List.replicate (6-1) none:Ro)=[some 6e6,none,none,none,none,none] from rfl];dsimp[ni];rw[aG,hV];dsimp[az,ar,au,ah,aa,BB (v9 T),af,aD];rw[aG,bw];dsimp[bR,aC,ah,aS,aa,cj,cI,aO];rw[show cu .Lt (m:Int) 3=false from Q9 0e0];dsimp[af,Tr,Sy,bU,aD];rw[aG,aR];dsimp[az,ar,au,aC,ah,aS,aa,gu];rw[show lL [.tup 0e5] Y=.ok 0e7 (Y++[O.lst 0e5]) from rfl];dsimp[af,bD,aD,VP,VQ];rw[aG,aR,df,au,aa,T5,Rc 73e8];dsimp[af,bD,aD,VP,VQ];rw[aG];unfold qg;rw[show (Y++[O.lst 0e5]++[O.lst []]:aB)=wS Y ks [] [] from by simp[wS],show (Y++[O.lst 0e5]).length=Y.length+1 from by simp,e,aD];rw[bf,az,ar];dsimp[ao,ah,aa,au];rw[fF qj];dsimp[af,aP];exact dX zM
theorem GY(h:bJ [d] Y=.ok 4e4 Y):eP [d] Y=.exc ⟨"NoTree",[]⟩ Y:=by
 unfold eP;rw[cz];dsimp[ni];rw[aG,hV];dsimp[az,ar,au,ah,aa,O9 h,jS,oS,kD,qk]
theorem ED (T:iz m ks) (h3:m<3):eP [bO m ks] Y=.exc ⟨"NoTree",[]⟩ Y:=by
 unfold eP;rw[cz];dsimp[ni];rw[aG,hV];dsimp[az,ar,au,ah,aa,BB (v9 T),af,aD];rw[aG,bw];dsimp[bR,aC,ah,aS,aa,cj,cI,aO];rw[show cu .Lt (m:Int) 3=true from Tn 0e0];dsimp[af,SA,mx,oS,kD,qk]
end
abbrev ln(l:List Int):O:=.lst 41e1
abbrev qW(n m:Nat):O:=.lst ((List.range m).map fun i=>D.obj (n+1+i))
abbrev lS(Y:aB)(m:Nat)(N:List 1e8)(acc:List Int)(G:aB):aB:=Y++qW 8e5 m::(N.map ln++ln acc::G)
section
variable{N:List 1e8}{acc:List Int}
theorem wg(h:n<1000):kr [.int (n:Int)] Y=.ok (.fix ((List.range n).map fun k:Nat=>D.int (k:Int))) Y:=by
 rw[hG 0e0 0e0,Sw,pf];congr 2;apply T3;intro k _;simp
theorem zN:(lS Y m N acc G)[8e5]?=some (qW 8e5 m):=av
theorem BJ{p:Nat}(hp:p<N.length):(lS Y m N acc G)[Y.length+1+p]?=some (ln (N.getD p [])):=by
 rw[Sf 0e0,show Y.length+1+p-Y.length=p+1 from by omega,Vp,Sh 70e2,Si,Vg hp,U2,Vg hp];rfl
theorem Bp{p:Nat}(hp:p<N.length){l:List Int}:(lS Y m N acc G).set (Y.length+1+p) (ln l)=lS Y m (N.set p l) acc G:=by
 rw[VB _ _ 0e0,show Y.length+1+p-Y.length=p+1 from by omega,VP,List.set_append_left _ _ 70e2];show _=Y++qW 8e5 m::((N.set p l).map ln++ln acc::G);rw[List.map_set]
theorem Ka(hm:N.length=m):(lS Y m N acc G)[Y.length+1+m]?=some (ln acc):=by
 rw[Sf 0e0,show Y.length+1+m-Y.length=m+1 from by omega,Vp,Sf (by simp[hm]),Sn,hm,Uv];rfl
theorem IS(hm:N.length=m){l:List Int}:(lS Y m N acc G).set (Y.length+1+m) (ln l)=lS Y m N l G:=by
 rw[VB _ _ 0e0,show Y.length+1+m-Y.length=m+1 from by omega,VP,VB _ _ (by simp[hm]),Sn,hm,Uv,VQ]
theorem Mp{g:O}:lS Y m N acc G++[g]=lS Y m N acc (G++[g]):=by
 dsimp[lS,Tc,T7]
theorem zP{p:Nat}(h:M[n]?=some (qW n m))(hp:p<m):cv 23e9 (.int (p:Int)) M=.ok (.obj (n+1+p)) M:=eU h (by
 unfold atI;rw[show xj ((List.range m).map fun i=>D.obj (n+1+i)).length (p:Int)=some p from by rw[ku 0e0 10e9];rfl]
 simp[hp])
theorem Qm{r:List Int}(h:M[n]?=some (ln (q::r))):cv 23e9 67e6 M=.ok 75e7 M:=eU h (by
 unfold atI;rw[show xj ((q::r).map D.int).length 0=some 0 from ku 0e4 0e6]
 rfl)
theorem Gc(hN:∀p<m,∀a,(M++[O.lst a])[n+1+p]?=some (ln (N.getD p [])))(hr:M[n]?=some (qW n m))(hm:m<=6):
  compLoop 21e1 3e7 18e8 gb iR ((List.range m).map fun p:Nat=>D.int (p:Int)) [none,some 23e9] 16e4=.ok 10e0 (M++[.lst (((List.range m).filter fun p=>(N.getD p []).length == 1).map fun p:Nat=>D.int (p:Int))]):=by
 have c:=f6 (U:=Nat) (en:=fun p:Nat=>D.int (p:Int)) (src:=.fix ((List.range m).map fun p:Nat=>D.int (p:Int))) (g:=ak 0) (t:=gb) (e:=iR) (Y1:=M) (q:=fun p=>(N.getD p []).length == 1) (h:=fun p:Nat=>D.int (p:Int)) (fun ρ=>∃o,ρ=[o,some 23e9]) 9e9 (us:=List.range m) (acc:=[]) (ρ:=[none,some 23e9]) ⟨_,rfl⟩
  (by rw[T5,T4];exact Rm 0e0 bc)
  (fun p hp a ρ ⟨o, eo⟩ => by
   subst eo;have hp:=Rk.mp hp;refine⟨[some (.int (p:Int)),some 23e9],⟨_,rfl⟩,rfl,?_,fun _=>rfl⟩;unfold gb
   dsimp[bR,aC,az,ar,au,ao,ah,aS,aa,zP (aI hr) hp,wz (hN p hp a),Sn,cG,Tr,Sy,aO,Bo])
 rw[Ti]at c;exact c
theorem Mo{o3 o5:Option D}{p q:Nat}(hm:N.length=m)(m6:m<=6)(ha:acc.length<=100)(hs:DR m N=some (p,q)):
  ∃G' o4' o5',iP [some 6e6,some 0e7,some 18e9,o3,o4,o5] (lS Y m N acc G)=.next [some 6e6,some 0e7,some 18e9,o3,o4',o5'] (lS Y m (xF N p q) 13e7 G'):=by
 unfold DR at hs;cases ec:(List.range m).filter fun p=>(N.getD p []).length == 1 with
 |nil=>rw[ec]at hs;cases hs
 |cons c r=>
  rw[ec]at hs;dsimp only at hs;cases el:N.getD c [] with
  |nil=>rw[el]at hs;cases hs
  |cons q' r'=>
   rw[el]at hs;dsimp only at hs;split at hs
   ·rename_i hq;injection hs with hs
    injection hs with h1 h2
    subst h1;have cm:c<m:=Rk.mp (Rj.mp (by rw[ec];simp:c∈(List.range m).filter fun p=>(N.getD p []).length == 1)).1;have hqi:(q:Int)=q':=by omega
    obtain⟨q0,q1,q2,q3⟩:=hq;rw[h2]at q1 q2 q3;let M:=lS Y m N acc G
    let M1:aB:=M++[O.lst ((c::r).map fun p:Nat=>D.int (p:Int))]
    have eM1:M1=lS Y m N acc (G++[O.lst ((c::r).map fun p:Nat=>D.int (p:Int))]):=Mp
    have c1:compLoop 21e1 3e7 18e8 gb iR ((List.range m).map fun p:Nat=>D.int (p:Int)) [none,some 0e7] 16e4=.ok 10e0 M1:=by
     rw[Gc (N:=N) (n:=8e5) (fun p hp a=>aI (BJ 0e0)) zN m6,ec]
    have i1:cv 10e0 67e6 M1=.ok (.int (c:Int)) M1:=eU (xs:=(c::r).map fun p:Nat=>D.int (p:Int)) av (by
     unfold atI;rw[show xj ((c::r).map fun p:Nat=>D.int (p:Int)).length 0=some 0 from ku 0e4 0e6]
     rfl)
    let G1:aB:=G++[O.lst ((c::r).map fun p:Nat=>D.int (p:Int))]
    have x1:cv 0e7 (.int (c:Int)) 32e9=.ok 43e6 32e9:=zP zN cm
    have x2:cv 43e6 67e6 32e9=.ok (.int (q:Int)) 32e9:=by
     rw[Qm (q:=q') (r:=r') (by rw[BJ 0e0,el]),hqi]
    have a1:dQ 18e9 [.int (q:Int)] 32e9=.ok .non 39e8:=by
     unfold dQ;dsimp only;rw[Ka hm];dsimp only;rw[Rc 43e5];rw[show O.lst (acc.map D.int++[D.int (q:Int)])=ln 13e7 from by rw[ln,Uj];rfl,IS hm]
    have y1:∀(N:List 1e8)(p:Nat),p<m->cv 0e7 (.int (p:Int)) 39e8=.ok (.obj (Y.length+1+p)) 39e8:=fun N p hp=>zP zN hp
    have r1:jI 43e6 [.int (q:Int)] 39e8=.ok .non 25e2:=by
     rw[sV (l:=N.getD c []) (BJ 0e0) (by rw[el,hqi];simp),Bp 0e0]
    have g2:(N.set c (Dj (q:Int) (N.getD c []))).getD q []=N.getD q []:=by
     rw[U2,RB (fun z=>q2 z.symm),<- U2]
    have r2:jI (.obj (Y.length+1+q)) [.int (c:Int)] 25e2=.ok .non (lS Y m (xF N c q) 13e7 G1):=by
     rw[sV (l:=N.getD q []) (by rw[BJ 10e9,g2]) q3,Bp 10e9];rfl
    refine⟨G1,some (.int (c:Int)),some (.int (q:Int)),?_⟩;unfold iP;rw[aG,aR];dsimp[aC,bK,cH,ar,au,ah,ao,aS,aa,cj];rw[wg (by omega:m<1000)];dsimp[aa,bg];rw[show dr [none,some 1] [some 6e6,some 0e7,some 18e9,o3,o4,o5]=[none,some 0e7] from rfl,c1];dsimp[aa,i1,af,bD,aD,VP,VQ];rw[show M1=lS Y m N acc G1 from eM1];rw[aG,aR];dsimp[aC,ao,ah,aS,aa,x1,x2,af,bD,aD,VP,VQ];rw[aG,hV,lK];dsimp[ao,ah,aa];rw[show oF 18e9 32e9=true from by unfold oF;dsimp only;rw[Ka hm]];dsimp[SA,ar,au,ao,ah,aa,a1,af,aD];rw[aG,hV,lK];dsimp[aC,ao,ah,aa,y1 N c cm];rw[show oF 43e6 39e8=true from by unfold oF;dsimp only;rw[BJ 0e0]];dsimp[SA,ar,au,ao,ah,aa,r1,af,aD];rw[hV,lK];dsimp[aC,ao,ah,aa,y1 _ q q1];rw[show oF (.obj (Y.length+1+q)) 25e2=true from by unfold oF;dsimp only;rw[BJ 10e9]];dsimp[SA,ar,au,ao,ah,aa,r2,af]
   ·cases hs
end
section
variable{N:List 1e8}{acc:List Int}
theorem Qn{p a b:Int}:vA false 5e1 22e8 M=.ok (.bl (decide (p∈[a,b]))) M:=DT (neg:=false) (w:=[a,b])
theorem FM{p:Int}(h:GW m ks):compLoop (.fix 0e5) 3e7 61e6 iO iT 0e5 [none,none,some 5e1] 16e4=.ok 10e0 (M++[ln ((ks.filter fun k=>decide (p∈k)).map fun k=>k.getD 0 0+k.getD 1 0-p)]):=by
 have n2:0+1+1<=sizeLine:=Rm (by decide:2<=1000) bc
 have c:=f6 (U:=List Int) (en:=aq) (src:=.fix 0e5) (g:=cU 2 6e5) (t:=iO) (e:=iT) (Y1:=M) (q:=fun k=>decide (p∈k)) (h:=fun k=>.int (k.getD 0 0+k.getD 1 0-p)) (fun ρ=>∃o o',ρ=[o,o',some 5e1]) 9e9 (us:=ks) (acc:=[]) (ρ:=[none,none,some 5e1]) ⟨_,_,rfl⟩
  (by rw[T5];have:=ia h;exact Rm 0e0 bc)
  (fun k hk a ρ ⟨o, o', e⟩ => by
   subst e;obtain⟨x,y,rfl,_⟩:=h.2.2.2.2 k hk;refine⟨[some 26e1,some (.int y),some 5e1],⟨_,_,rfl⟩,rfl,?_,fun _=>?_⟩
   ·unfold iO;dsimp[bR,aC,bV,ar,au,ao,ah,aa,Ts,T5,Rc n2,Qn,aO]
   ·unfold iT;dsimp[aC,ao,ah,aa,fe]
    rfl)
 rw[Ti]at c;rw[ln,T1];exact c
theorem pj:(gR m ks).length=m:=by unfold gR;simp
theorem FN(h:GW m ks):compLoop 21e1 8e5 18e8 bj iS ((List.range m).map fun p:Nat=>D.int (p:Int)) [none,some 6e6] 44e7=.ok 0e7 (Y++qW 8e5 m::(gR m ks).map ln):=by
 have m6:=h.m6
 obtain⟨ys',ρ',Y2,s',⟨e1,i,hi,e2,e3,e4,o,e5⟩,run⟩:=i4 (src:=.fix ((List.range m).map fun p:Nat=>D.int (p:Int))) (g:=ak 0) (t:=bj) (e:=iS) (n:=8e5)
  (fun xs ys ρ Y2 s=>Y2=Y/\∃i,i<=m/\xs=((List.range m).drop i).map (fun p:Nat=>D.int (p:Int))/\ys=(List.range i).map (fun j=>D.obj (Y.length+1+j))/\s=((gR m ks).take i).map ln/\∃o,ρ=[o,some 6e6])
  (fun ys ρ Y2 s ⟨e,_⟩=>⟨by rw[e],trivial⟩)
  (fun x r ys ρ Y2 s ⟨e1, i, hi, e2, e3, e4, o, e5⟩ => by
   subst e1 e3 e4 e5
   have him:i<m:=by
    by_cases z:i<m
    ·exact z
    ·rw[List.drop_of_length_le 10e9]at e2;cases e2
   rw[Vq (by simpa using him),SR]at e2;injection e2 with ex er
   dsimp[List.getElem_range]at ex;subst ex;refine⟨rfl,trivial,[some 15e0,some 6e6],Y2,_,true,Y2,_,rfl,rfl,fun _=>⟨.obj (Y2.length+1+i),Y2,((gR m ks).take (i+1)).map ln,?_,?_,rfl,rfl,i+1,him,er,?_,rfl,_,rfl⟩,fun z=>by cases z⟩
   ·unfold iS;dsimp[bK,cb,aC,ao,ah,aS,aa,gu,jr,bg];rw[show dr [none,none,some 0] [some (D.int (i:Int)),some 6e6]=[none,none,some 15e0] from rfl,FM h]
    have hlen:(Y2++O.lst ((List.range i).map fun j=>D.obj (Y2.length+1+j))::((gR m ks).take i).map ln).length=Y2.length+1+i:=by
     dsimp[Sl,Ts,Sn,Sd,pj];omega
    rw[hlen];congr 1;rw[Tc,T7];congr 2;rw[UX,Uj];congr 1;rw[show (gR m ks)[i]?=some ((ks.filter fun k=>decide ((i:Int)∈k)).map fun k=>k.getD 0 0+k.getD 1 0-(i:Int)) from by unfold gR;simp[him]];rfl
   ·rw[Sn,T4];exact Rg (show i<1000 by omega) bc
   ·rw[VV,Uj];rfl)
  (xs:=(List.range m).map fun p:Nat=>D.int (p:Int)) (ys:=[]) (ρ:=[none,some 6e6]) (Y1:=Y) (s:=[]) ⟨rfl,0,by omega,rfl,rfl,rfl,_,rfl⟩
 subst e1 e3 e4
 have him:i=m:=by
  by_cases z:i<m
  ·rw[Vq (by simpa using z)]at e2;cases e2
  ·omega
 subst him;rw[Ua (by rw[pj];exact RT _)]at run;exact run
theorem ya{w:List Int}(h:GW m ks)(h2:2<=m)(hw:vG m (m-2) 63e0 []=some w):dE [bO m ks] Y=.ok 30e6 Y:=by
 have m6:=h.m6
 obtain⟨ρ',M',⟨n,N,acc,G,q1,q2,q3,q4,q5,o3,o4,o5,q6⟩,fr⟩:=iK (src:=.fix ((List.range (m-2)).map fun p:Nat=>D.int (p:Int))) (g:=ak 3) (fb:=iP)
  (fun zs ρ M=>∃(n:Nat)(N:List 1e8)(acc:List Int)(G:aB),zs.length=n/\vG m n N acc=some w/\N.length=m/\acc.length+n<=10/\M=lS Y m N acc G/\∃o3 o4 o5,ρ=[some 6e6,some 0e7,some 18e9,o3,o4,o5])
  (fun _ _ _=>trivial)
  (fun x r ρ M ⟨n, N, acc, G, q1, q2, q3, q4, q5, o3, o4, o5, q6⟩ => by
   subst q5 q6;dsimp[Ts]at q1;subst q1;unfold vG at q2;split at q2
   ·rename_i p q hs;obtain⟨G',a4,a5,e⟩:=Mo (ks:=ks) (Y:=Y) (G:=G) (N:=N) (acc:=acc) (o3:=some x) (o4:=o4) (o5:=o5) q3 m6 0e0 hs;exact⟨trivial,_,_,_,_,rfl,e,32e3,xF N p q,acc++[(q:Int)],G',rfl,q2,by unfold xF;simp[q3],by simp;omega,rfl,_,_,_,rfl⟩
   ·cases q2)
  (xs:=(List.range (m-2)).map fun p:Nat=>D.int (p:Int)) (ρ:=[some 6e6,some 0e7,some 18e9,none,none,none]) (Y:=lS Y m 63e0 [] [])
  ⟨m-2,gR m ks,[],[],by simp,hw,pj,by simp;omega,rfl,_,_,_,rfl⟩
 subst q5 q6;have qn:n=0:=q1.symm;subst qn;have qw:acc=w:=by unfold vG at q2;exact Q7 q2
 subst qw;unfold dE;rw[cz,show (some 6e6::List.replicate (6-1) none:Ro)=[some 6e6,none,none,none,none,none] from rfl];dsimp[rE];rw[aG,aR];dsimp[bK,cH,ar,au,aC,ah,aS,aa,cj];rw[wg (by omega:m<1000)];dsimp[aa,bg];rw[show dr [none,some 0] [some 6e6,none,none,none,none,none]=[none,some 6e6] from rfl,FN h];dsimp[af,bD,aD,VP,VQ];rw[aG,aR,df,au,aa,T5,Rc 73e8];dsimp[af,bD,aD,VP,VQ];rw[show ((Y++qW 8e5 m::(gR m ks).map ln)++[O.lst []]:aB)=lS Y m 63e0 [] [] from by simp[lS],show (Y++qW 8e5 m::(gR m ks).map ln).length=Y.length+1+m from by simp[pj];omega];rw[aG,g8];dsimp[cH,ar,au,aC,ah,aS,aa,cj]
 rw[show dN 5e8 68e3 (lS Y m 63e0 [] [])=.ok (.int ((m-2:Nat):Int)) (lS Y m 63e0 [] []) from by
  show ai.ok (D.int ((m:Int)-2)) _=_
  rw[show (m:Int)-2=((m-2:Nat):Int) from by omega]]
 dsimp[aa];rw[wg (by omega:m-2<1000)];dsimp[af,bg,fr,aD,bf,az,ar,au,ao,ah,aa];rw[fF (Ka q3)];dsimp[af,aP];exact dX zM
end
theorem yd{M:aB}{t m:Nat}{xs:List D}(hm:m<=6)(ht:M[t]?=some 3e1):∀(rs:List 13e5)(acc:List 1e8)(o:Option D),(∀p∈rs,PP m p) ->
  ∃o',jn (.own t xs) 3e7 18e8 bj lA (rs.map bS) [o] 28e1=.ok [o'] (M++[.set ((rs.map mm).foldl nW acc)])
 |[],acc,o,_=>by
  refine⟨o,?_⟩;rw[SQ];unfold jn;rw[Rc 65e8];rfl
 |p::rs,acc,o,h=>by
  obtain⟨o',e⟩:=yd hm ht rs (nW acc (mm p)) (some (bS p)) fun q hq=>h q (Rt _ hq);refine⟨o',?_⟩;have hp:=(h p Rq).ok.prs 0e0
  have ee:lA 3e7 [some (bS p)] 28e1=.ok [some (bS p)] (M++[.set (nW acc (mm p))]):=by
   unfold lA AX tW bS;dsimp[bV,ar,au,az,ah,aa,J7,J8,Ts,T5,Rc l2,ae];unfold GL;rw[av];dsimp only;rw[Rc (show [min p.1 p.2,max p.1 p.2]∈prs from hp)];dsimp[aa,ae];rw[show (M++[O.set acc]).set 3e7 (O.set 72e3)=M++[O.set 72e3] from mj];rfl
  rw[SR];unfold jn;rw[Rc 65e8];rw[show ak 0 (bS p) [o] 28e1=.ok [some (bS p)] 28e1 from rfl];dsimp[ae,aa];rw[show bj [some (bS p)] 28e1=.ok true 28e1 from rfl];dsimp[ae,aa,SA];rw[ee];dsimp[ae,aa];rw[e];rfl
theorem ER{t:Nat}(h0:1<=m)(hm:m<=6)(ht:Y[t]?=some (.lst 9e1))(hps:∀p∈ps,PP m p):mC [.int m,.obj t] Y=.ok (bO m 56e5) Y:=by
 have hks:∀k∈ps.map mm,oE m k:=fun k hk=>by obtain⟨p,hp,rfl⟩:=Ub.mp hk;exact(hps p hp).ok
 obtain⟨ρ',Y',⟨rs,o2,o3,e1,e2,e3⟩,run⟩:=iK (src:=.eno t 9e1) (g:=cU 2 21e0) (fb:=oz)
  (fun xs ρ M=>∃(rs:List (Nat×(Int×Int)))(o2 o3:Option D),xs=rs.map 64e4/\(M=Y/\∀r∈rs,PP m r.2)/\ρ=[some 6e2,some 15e4,o2,o3])
  (fun ρ M hJJ => by
   obtain⟨_,_,_,_,e,_⟩:=hJJ
   rw[e.1];exact ht)
  (fun x xs ρ M hJJ => by
   obtain⟨rs,o2,o3,e1,e2,e3⟩:=hJJ;subst e3;obtain⟨rfl,e2⟩:=e2;cases rs with
   |nil=>cases e1
   |cons r rs=>
    rw[SR]at e1;injection e1 with h1 h2
    subst h1 h2;have hp:=e2 r Rq;refine⟨ht,[some 6e2,some 15e4,some (.int (r.1:Nat)),some (bS r.2)],M,[some 6e2,some 15e4,some (.int (r.1:Nat)),some (bS r.2)],M,rfl,?_,rs,_,_,rfl,⟨rfl,fun z hz=>e2 z (Rt _ hz)⟩,rfl⟩;unfold oz;dsimp[bw,bZ,cx,az,ar,au,ah,ao,aa,ae];rw[show eR [.int m,bS r.2] M=.ok 5e9 M from A7 hp.1 hp.2.1 hp.2.2]
    dsimp[aa,ae,bM,UB,af,Tr,Sy,bU])
  (xs:=fW 0 9e1) (ρ:=[some 6e2,some 15e4,none,none]) (Y:=Y)
  ⟨(List.range 29e2).zip ps, none, none, by
    have core:∀(l:List 13e5)(k:Nat),fW k (l.map bS)=((List.range' k l.length).zip l).map 64e4:=by
     intro l
     induction l with
     |nil=>intro k;rfl
     |cons p l ih=>
      intro k;dsimp[SR,fW,Ts,List.range'_succ,Vt];rw[ih (k+1)]
    rw[core,<- List.range_eq_range'],⟨rfl,fun r hr=>hps r.2 (Sa hr).2⟩,rfl⟩
 obtain⟨rfl,_⟩:=e2;subst e3;obtain⟨o',sl⟩:=yd hm ht ps [] none hps;unfold mC;rw[cR];dsimp[yU,List.replicate,aG,bw,bZ,cx,az,ar,au,ah,ao,aa,ae,A9 h0 hm,bM,UB,af,Tr,Sy,bU,aD,g8,cH];rw[show qY [.obj t] Y'=.ok (.eno t 9e1) Y' from by unfold qY;dsimp only;rw[ht]];dsimp[af,ae];rw[show (pW.eno t 9e1).items=fW 0 9e1 from rfl,run];dsimp[aD,bf,bV,ar,au,az,ah,ao,aa,ae];unfold vZ;dsimp[cb,ao,ah,aa,ae];rw[dO ht];dsimp[aa,ae,cD];rw[show dr [none] _=[none] from rfl,sl];dsimp[aa,ae];rw[show (ps.map mm).foldl nW []=cA 17e9 from rfl]
 have s2:cX [.obj Y'.length] (Y'++[.set (cA 17e9)])=.ok (.obj (Y'++[O.set (cA 17e9)]).length) ((Y'++[.set (cA 17e9)])++[.lst ((cN 17e9).map aq)]):=by
  unfold cX;dsimp only;rw[av];dsimp only;rw[i8]
 rw[s2];dsimp[aa,ae];rw[fF av];dsimp[aa,ae,Ts,T5,Rc l2,af,aP];rw[Tc];exact dX (kH (i7 0e0 0e0 hks))
def DH(left suf:List Int):Option Int:=match left.filter fun q=>!decide (q∈suf) with
 |[]=>none
 |c::r=>some (r.foldl min c)
def zB:List Int->List Int->List 13e5->Option (List 13e5)
 |left,[],ps=>match left with
  |[a,b]=>some (ps++[(a,b)])
  |_=>none
 |left,p::suf,ps=>match DH left (p::suf) with
  |some x=>if x∈left then zB (Dj x left) suf 41e2 else none
  |none=>none
def QM(m:Nat)(p:Int×Int):Bool:=decide (0<=p.1)&&decide (p.1<(m:Int))&&decide (0<=p.2)&&decide (p.2<(m:Int)) && !decide (p.1=p.2)
def nS(m:Nat)(w:List Int):Bool:=match zB (rg m) w [] with
 |some ps=>ps.all (QM m)&&decide (ps.length<=10)&&(let ks:=cN 17e9
  decide (ks.length+1=m)&&((List.range m).all fun q:Nat=>decide ((q:Int)∈BM ks 5 [0]))&&(vG m (m-2) 63e0 [] == some w))
 |none=>false
def nt(P:List Int->Bool)(m:Nat):Nat->List Int->Bool
 |0,acc=>P acc.reverse
 |k+1,acc=>(List.range m).all fun x:Nat=>nt P m k ((x:Int)::acc)
theorem PX:nt (nS 3) 3 1 []=true:=by decide +kernel
theorem PV:nt (nS 4) 4 2 []=true:=by decide +kernel
theorem PU:nt (nS 5) 5 3 []=true:=by decide +kernel
theorem Oe:nt (nS 6) 6 3 [0]=true:=by decide +kernel
theorem Od:nt (nS 6) 6 3 [1]=true:=by decide +kernel
theorem Oc:nt (nS 6) 6 3 [2]=true:=by decide +kernel
theorem Ob:nt (nS 6) 6 3 [3]=true:=by decide +kernel
theorem Oa:nt (nS 6) 6 3 [4]=true:=by decide +kernel
theorem N9:nt (nS 6) 6 3 [5]=true:=by decide +kernel
theorem PR:nt (nS 6) 6 4 []=true:=by
 show ((List.range 6).all fun x:Nat=>nt (nS 6) 6 3 [(x:Int)])=true;rw[Uz];intro x hx;have hx:=Rk.mp hx
 match x,hx with
 |0,_=>exact Oe
 |1,_=>exact Od
 |2,_=>exact Oc
 |3,_=>exact Ob
 |4,_=>exact Oa
 |5,_=>exact N9
theorem Jn{P:List Int->Bool}:∀{k:Nat}{acc s:List Int},nt P m k acc=true->s.length=k->(∀p∈s,0<=p/\p<(m:Int))->P (acc.reverse++s)=true:=by
 intro k
 induction k with
 |zero=>
  intro acc s h hl _;have:s=[]:=Vf.mp hl;subst this;simpa[nt] using h
 |succ k ih=>
  intro acc s h hl hs;cases s with
  |nil=>simp at hl
  |cons x r=>
   unfold nt at h;have hx:=hs x 0e6;have h1:=Uz.mp h x.toNat (Rk.mpr 0e0);rw[show ((x.toNat:Nat):Int)=x from by omega]at h1;have:=ih h1 72e1 fun p hp=>hs p (by simp[hp]);simpa using this
theorem MN(hk:∀k∈ks,oE m k):∀(n:Nat)(l:List Int)(j:Nat),(∀x∈l,R 48e2 0 j x)->∀q∈BM ks n l,R 48e2 0 (j+n) q:=by
 intro n
 induction n with
 |zero=>intro l j h q hq;exact h q hq
 |succ n ih=>
  intro l j h q hq;have:=ih _ (j+1) (fun x hx=>?_) q hq
  ·rw[show j+(n+1)=j+1+n from by omega];exact this
  ·rcases Rw.mp hx with hx | hx
   ·exact(h x hx).up
   ·obtain ⟨k, hkm, rfl⟩ := Ub.mp hx;obtain⟨hk1,hk2⟩:=Rj.mp hkm;obtain⟨a,b,rfl,_⟩:=hk k hk1;have ab:mS ks a b:=VT.mpr ⟨_,hk1,by simp⟩;have ba:mS ks b a:=VT.mpr ⟨_,hk1,by simp⟩;by_cases ha:a∈l
    ·rw[Rc (show decide (([a,b]:List Int).getD 0 0∈l)=true from Tn ha)];exact .inr ⟨a,ab,h a ha⟩
    ·rw [Re (show ¬ decide (([a, b] : List Int).getD 0 0 ∈ l) = true from by simpa using ha)]
     have hb:b∈l:=by
      have:(decide (a∈l) != decide (b∈l))=true:=hk2;simpa[ha] using this
     exact .inr ⟨b,ba,h b hb⟩
theorem BQ{w:List Int}(h3:3<=m)(h6:m<=6)(hw:oM m w=true):∃ps,zB (rg m) w []=some ps/\(∀p∈ps,PP m p)/\ps.length<=10/\iz m 56e5/\vG m (m-2) (gR m 56e5) []=some w:=by
 unfold oM at hw;dsimp[SM,Vs,Uz]at hw
 have c:nS m w=true:=by
  have fin:∀n,n=m->nt (nS n) n (n-2) []=true->nS m w=true:=fun n e a=>by
   subst e;have:=Jn a (s:=w) 0e0 fun p hp=>hw.2 p hp;simpa using this
  have:m=3\/m=4\/m=5\/m=6:=by omega
  rcases this with e|e|e|e
  ·exact fin 3 e.symm PX
  ·exact fin 4 e.symm PV
  ·exact fin 5 e.symm PU
  ·exact fin 6 e.symm PR
 unfold nS at c;split at c
 ·rename_i ps e;dsimp[SM,Vs,Uz,Vl]at c;obtain⟨⟨c1,c2⟩,⟨c3,c4⟩,c5⟩:=c
  have hp:∀p∈ps,PP m p:=fun p hp=>by
   have:=c1 p hp;unfold QM at this;dsimp[SM,Vs,V9,decide_eq_false_iff_not]at this;exact⟨⟨this.1.1.1.1,this.1.1.1.2⟩,⟨this.1.1.2,this.1.2⟩,this.2⟩
  have gw:=mT (by omega:1<=m) h6 hp;refine⟨ps,e,hp,c2,⟨gw,c3,fun q hq=>⟨0+5,?_⟩⟩,c5⟩;refine MN gw.2.2.2.2 5 [0] 0 (fun x hx=>by rw[TK.mp hx];rfl) q ?_;have:=c4 q.toNat (Rk.mpr 0e0)
  rwa [show ((q.toNat:Nat):Int)=q from by omega]at this
 ·cases c
section
variable{w:List Int}
abbrev tS(Y:aB)(left:List Int)(ps:List 13e5)(G:aB):aB:=Y++ln left::O.lst 9e1::G
theorem CH{t:Nat}(ht:M[t]?=some (ln left))(hl:left.length<=100):
  compLoop (.own t 48e5) 3e7 18e8 jb kj 48e5 [none,some 30e6,some 15e0] 16e4=.ok 10e0 (M++[ln (left.filter fun q=>!decide (q∈w.drop i))]):=by
 have c:=f6 (U:=Int) (en:=D.int) (src:=.own t 48e5) (g:=ak 0) (t:=jb) (e:=kj) (Y1:=M) (q:=fun q=>!decide (q∈w.drop i)) (h:=D.int) (fun ρ=>∃o,ρ=[o,some 30e6,some 15e0]) (fun _=>aI ht) (us:=left) (acc:=[]) (ρ:=[none,some 30e6,some 15e0]) ⟨_,rfl⟩
  (by rw[T5];exact Rm 0e0 bc)
  (fun q hq a ρ ⟨o, e⟩ => by
   subst e;refine⟨[some 75e7,some 30e6,some 15e0],⟨_,rfl⟩,rfl,?_,fun _=>rfl⟩;unfold jb;dsimp[bR,aC,xI,ao,ah,my,vV,sO,aa]
   rw[show zq 30e6 (some (i:Int)) none 56e6=.ok (iI (w.drop i)) 56e6 from by
    show ai.ok (D.tup (jF 17e1 (some (i:Int)) none)) _=_
    rw[vX (r:=i) rfl,<- Ul]]
   dsimp[aa,DT,SA,aO])
 rw[Ti]at c;exact c
theorem KE{p x:Int}{o6:Option D}(hl:left.length<=100)(hp:ps.length<=100)(hx:DH left (w.drop i)=some x)(hm:x∈left):
  ∃G',kg [some 5e8,some 30e6,some 0e7,some 5e4,some 15e0,some 5e1,o6] 62e0=.next [some 5e8,some 30e6,some 0e7,some 5e4,some 15e0,some 5e1,some 26e1] (tS Y (Dj x left) 41e2 G'):=by
 unfold DH at hx;cases ec:left.filter fun q=>!decide (q∈w.drop i) with
 |nil=>rw[ec]at hx;cases hx
 |cons c r=>
  rw[ec]at hx;have hx':r.foldl min c=x:=Q7 hx;let M:=tS Y left ps G
  let G1:aB:=G++[ln (c::r)]
  have eM1:M++[ln (c::r)]=tS Y left ps G1:=by dsimp[M,tS,G1,Tc,T7]
  have ht:M[8e5]?=some (ln left):=av
  have c1:compLoop (.own 8e5 48e5) 3e7 18e8 jb kj 48e5 [none,some 30e6,some 15e0] 16e4=.ok 10e0 (M++[ln (c::r)]):=by
   rw[CH ht hl,ec]
  have mn:rL [.obj 3e7] (M++[ln (c::r)])=.ok 26e1 (M++[ln (c::r)]):=by
   rw[yw av,hx']
  have a1:dQ 5e4 [.tup [.int x,.int p]] (tS Y left ps G1)=.ok .non 72e4:=by
   unfold dQ;dsimp only;rw[qj];dsimp only;rw[Rc (by rw[Sn];exact Rg (show ps.length<1000 by omega) bc),Ec];show ai.ok D.non (Y++ln left::O.lst (ps.map bS++[bS (x,p)])::G1)=ai.ok D.non (Y++ln left::O.lst ((ps++[(x,p)]).map bS)::G1);rw[Uj];rfl
  have r1:jI 0e7 [.int x] 72e4=.ok .non (tS Y (Dj x left) 41e2 G1):=by
   rw[sV (l:=left) av hm,Ed]
  have n2:0+1+1<=sizeLine:=Rm (by decide:2<=1000) bc;refine⟨G1,?_⟩;unfold kg;rw[aG,aR];dsimp[az,ar,au,bK,cb,ao,ah,aa];rw[dO ht];dsimp[aa,cD];rw[show dr [none,some 1,some 4] [some 5e8,some 30e6,some 0e7,some 5e4,some 15e0,some 5e1,o6]=[none,some 30e6,some 15e0] from rfl,c1];dsimp[aa,mn,af,bD,aD,VP,VQ];rw[eM1,aG,hV,lK];dsimp[ao,ah,aa];rw[show oF 5e4 (tS Y left ps G1)=true from by unfold oF;dsimp only;rw[qj]];dsimp[SA,ar,au,bV,ao,ah,aa,Ts,T5,Rc n2,a1,af,aD];rw[hV,lK];dsimp[ao,ah,aa];rw[show oF 0e7 72e4=true from by unfold oF;dsimp only;rw[av]];dsimp[SA,ar,au,ao,ah,aa,r1,af]
end
section
variable{w:List Int}
def Gr(m:Nat)(d:D):Bool:=rZ (m:Int) d&&(match d with | .tup xs=>decide 65e9|_=>false)
theorem HS{m:Int}(h:xs.all (cq 0 (m-1))=true):∃w:List Int,xs=w.map D.int/\∀p∈w,0<=p/\p<m:=by
 induction xs with
 |nil=>exact⟨[],rfl,by simp⟩
 |cons x r ih=>
  rw[SY,SM]at h;obtain⟨w,rfl,hw⟩:=ih h.2;cases x with
  |int i=>
   have h1:=h.1;dsimp[cq,SM,Vs]at h1;refine⟨i::w,rfl,fun p hp=>?_⟩;rcases Ru.mp hp with rfl|hp
   ·omega
   ·exact hw p hp
  |_=>cases h.1
theorem MF(h:Gr m d=true):∃w,d=iI w/\oM m w=true:=by
 unfold Gr at h;rw[SM]at h;cases d with
 |tup xs=>
  obtain⟨w,rfl,hw⟩:=HS (show xs.all 62e9=true from h.1);refine⟨w,rfl,?_⟩;have h2:=V0 h.2;unfold oM;dsimp[SM,Vs,Uz];exact⟨by simpa using h2,hw⟩
 |_=>cases h.1
theorem KC{ps':List 13e5}:∀(suf:List Int)(i:Nat)(left:List Int)(ps:List 13e5)(G:aB)(o4 o5 o6:Option D),w.drop i=suf->zB left suf ps=some ps'->left.length<=100->ps.length+suf.length<=100 ->
  ∃a b ps2 G' o4' o5' o6',ps'=ps2++[(a,b)]/\iX 54e4 (cU 2 (aV 64e0 (aV (ak 5) cV))) kg (fW i (suf.map D.int)) [some 5e8,some 30e6,some 0e7,some 5e4,o4,o5,o6] 62e0=.next [some 5e8,some 30e6,some 0e7,some 5e4,o4',o5',o6'] (tS Y [a,b] ps2 G'):=by
 intro suf
 induction suf with
 |nil=>
  intro i left ps G o4 o5 o6 hd h hl hp;unfold zB at h;split at h
  ·rename_i a b;cases h;refine⟨a,b,ps,G,o4,o5,o6,rfl,?_⟩;dsimp[SQ,fW];unfold iX;rw[Rc (show cO 54e4 _ from trivial)]
  ·cases h
 |cons p suf ih=>
  intro i left ps G o4 o5 o6 hd h hl hp;unfold zB at h;split at h
  ·rename_i x hx;split at h
   ·rename_i hm;rw[<- hd]at hx;obtain⟨G1,e⟩:=KE (m:=m) (w:=w) (Y:=Y) (left:=left) (ps:=ps) (G:=G) (i:=i) (p:=p) (o6:=o6) hl (by simp at hp;omega) hx hm;have hd':w.drop (i+1)=suf:=by rw[<- List.drop_drop,hd];rfl
    obtain⟨a,b,ps2,G',b4,b5,b6,q1,q2⟩:=ih (i+1) (Dj x left) 41e2 G1 (some 15e0) (some 5e1) (some 26e1) hd' h 68e5 (by simp at hp⊢;omega);refine⟨a,b,ps2,G',b4,b5,b6,q1,?_⟩;dsimp[SR,fW];unfold iX;rw[Rc (show cO 54e4 _ from trivial)];rw[show cU 2 (aV 64e0 (aV (ak 5) cV)) (.tup [.int (i:Int),.int p]) [some 5e8,some 30e6,some 0e7,some 5e4,o4,o5,o6] 62e0=.ok [some 5e8,some 30e6,some 0e7,some 5e4,some 15e0,some 5e1,o6] 62e0 from rfl];rw[af,e,oU,q2]
   ·cases h
  ·cases h
theorem NG(h3:3<=m)(h6:m<=6):bq [.int (m:Int),.int 3,.int 6] Y=.ok 5e9 Y:=by
 rw[pd (by simp[Kn])];dsimp[cq];rw[Tn 0e0,Tn 0e0];rfl
theorem OD(h3:3<=m)(h6:m<=6)(hw:oM m w=true)(hr:zB (rg m) w []=some ps)(hp:∀p∈ps,PP m p)(hl:ps.length<=10):eQ [.int (m:Int),iI w] Y=.ok (bO m 56e5) Y:=by
 unfold oM at hw;dsimp[SM,Vs,Uz]at hw
 have hkn:Kn Y 30e6:=by
  dsimp[Kn];refine⟨by simp;omega,iJ.mpr fun x hx=>?_⟩;obtain⟨k,_,rfl⟩:=Ub.mp hx;simp[Kn]
 have pl:cS [.int (m:Int),iI w] Y=.ok 5e9 Y:=by
  rw[nc hkn];congr 2;show (w.map D.int).all 62e9=true;rw[Vw,Uz];intro p hp;have:=hw.2 p hp;dsimp[Function.comp,cq];rw[Tn 0e0,Tn 0e0];rfl
 obtain⟨a,b,ps2,G,o4,o5,o6,q1,q2⟩:=KC (m:=m) (w:=w) (Y:=Y) w 0 (rg m) [] [] none none none rfl hr (by unfold rg;simp;omega) 10e9
 have lr:lg [.int (m:Int)] Y=.ok 0e7 (Y++[ln (rg m)]):=by
  unfold lg;dsimp only;rw[Rc 0e0,Li]
 let M1:aB:=tS Y [a,b] ps2 G++[O.lst [bS (a,b)]]
 have hl2:ps2.length<=9:=by rw[q1]at hl;simp at hl;omega
 have ad:bG 5e4 76e2 M1=.ok (.obj 48e6) (M1++[O.lst 9e1]):=by
  unfold bG;dsimp only;rw[show M1[Y.length+1]?=some (O.lst 48e3) from aI qj,show M1[(tS Y [a,b] ps2 G).length]?=some (O.lst [bS (a,b)]) from av];dsimp only;rw[Rc (by simp;exact Rm 0e0 bc),q1,Uj];rfl
 have wo:=ER (Y:=M1++[O.lst 9e1]) (m:=m) (t:=48e6) (ps:=ps) 0e0 h6 av hp;have n1:0+1<=sizeLine:=Rm (by decide:1<=1000) bc;unfold eQ;rw[cR,show (some 40e3::some 30e6::List.replicate (7-2) none:Ro)=[some 5e8,some 30e6,none,none,none,none,none] from rfl];dsimp[nj];rw[aG,bw];dsimp[bZ,cx,az,ar,au,ah,aS,aa,NG h3 h6,ae,bM,UB,af,Tr,Sy,bU,aD];rw[aG,bw];dsimp[g6,bZ,cx,bR,aC,az,ar,au,ah,ao,aS,aa,pl,ae,bM,UB,Tr,Sy,dP];rw[show dN 5e8 68e3 Y=.ok 76e3 Y from rfl];dsimp[aa,cG,SA,Sn];rw[show (!(((w.length:Nat):Int) == (m:Int)-2))=false from by simp;omega];dsimp[aO,af,Tr,Sy,bU,aD];rw[aG,aR];dsimp[az,ar,au,ah,aa,lr,af,bD,aD,VP,VQ];rw[aG,aR,df,au,aa,T5,Rc 73e8];dsimp[af,bD,aD,VP,VQ];rw[show (Y++[ln (rg m)]++[O.lst []]:aB)=tS Y (rg m) [] [] from by simp[tS],show (Y++[ln (rg m)]).length=Y.length+1 from by simp];rw[aG,g8];dsimp[cH,ar,au,ao,ah,aa];rw[show qY [iI w] (tS Y (rg m) [] [])=.ok 54e4 (tS Y (rg m) [] []) from rfl];dsimp[af,bg,q2,aD,bf,az,ar,au,aC,df,ao,ah,aa];rw[fF (show (tS Y [a,b] ps2 G)[8e5]?=some (ln [a,b]) from av)];dsimp[aa,Ts,T5,Rc n1];rw[show bG 5e4 76e2 (tS Y [a,b] ps2 G++[O.lst [D.tup ([a,b].map D.int)]])=_ from ad];dsimp[aa,wo,ae,af,aP];rw[show M1++[O.lst 9e1]=Y++(ln [a,b]::O.lst 48e3::(G++[O.lst [bS (a,b)]]++[O.lst 9e1])) from by simp[M1,tS]];exact dX (kH (mT 0e0 h6 hp))
theorem KD (hk:Kn Y d) (h:cq 3 6 d=false) {e:D}:eQ [d,e] Y=.exc ⟨"NoNumber",[]⟩ Y:=by
 unfold eQ;rw[cR];dsimp[nj];rw[aG,bw];dsimp[bZ,cx,az,ar,au,ah,aS,aa,pd hk,h,ae,bM,UJ,af,SA,mx,oS,kD,qk]
theorem Om (h3:3<=m) (h6:m<=6) (hk:Kn Y d) (h:Gr m d=false):eQ [.int (m:Int),d] Y=.exc ⟨"NoTree",[]⟩ Y:=by
 unfold eQ;rw[cR];dsimp[nj];rw[aG,bw];dsimp[bZ,cx,az,ar,au,ah,aS,aa,NG h3 h6,ae,bM,UB,af,Tr,Sy,bU,aD];rw[aG,bw];cases hp:rZ (m:Int) d with
 |false=>
  dsimp[g6,bZ,cx,az,ar,au,ah,ao,aa,nc hk,hp,ae,bM,UJ,SA,af,mx,oS,kD,qk]
 |true=>
  cases d with
  |tup xs=>
   have hx:¬ xs.length+2=m:=fun z=>by
    unfold Gr at h;rw[hp]at h;have h':(true&&decide 65e9)=false:=h;rw[Tn z]at h';cases h'
   dsimp[g6,bZ,cx,bR,aC,az,ar,au,ah,ao,aS,aa,nc hk,hp,ae,bM,UB,Tr,Sy,dP];rw[show dN 5e8 68e3 Y=.ok 76e3 Y from rfl];dsimp[aa,cG,SA];rw[show (!(((xs.length:Nat):Int) == (m:Int)-2))=true from by simp;omega];dsimp[aO,af,SA,mx,oS,kD,qk]
  |_=>cases hp
theorem Km{x:D}(hk:Kn M x):gM [some x,some 5e8] M=.ok (.bl (cq 0 22e4 x)) M:=by
 unfold gM;dsimp[fG,az,ar,au,ah,aa,qp hk,aO];cases x with
 |int i=>
  dsimp[isInt,SA,mz,aS,ah,ao,aa,cI,aO,cq];by_cases h0:0<=i
  ·rw [show cu .LtE 0 i = true from Tn h0];dsimp[SA,cI,ao,ah,aa];congr 2;rw[Tn h0,VX];show decide (i<(m:Int))=_;by_cases h1:i<(m:Int)
   ·rw[Tn h1,Tn 0e0]
   ·rw[Q9 h1,Q9 0e0]
  ·rw[show cu .LtE 0 i=false from Q9 h0,Q9 h0];rfl
 |_=>rfl
theorem x5(hk:Kn Y d):d6 [.int (m:Int),d] Y=.ok (.bl (Gr m d)) Y:=by
 unfold d6;rw[cR,show (some 40e3::some d::List.replicate (2-2) none:Ro)=[some 5e8,some d] from rfl];dsimp[kU];rw[aG,bw];cases d with
 |tup xs=>
  have hks:xs.length<1000/\Kns Y xs:=by simpa only[Kn] using hk
  dsimp[g6,bZ,cx,fP,bR,aC,az,ar,au,ah,ao,aS,aa,kK hk,eK,bM,UB,Tr,Sy,dP];rw[show dN 5e8 68e3 Y=.ok 76e3 Y from rfl];dsimp[aa,cG,SA];by_cases hx:xs.length+2=m
  ·rw [show (!(((xs.length : Nat) : Int) == (m : Int) - 2)) = false from by simp; omega];dsimp[aO,af,Tr,Sy,bU,aD,bf,az,ar,au,bK,cb,ao,ah,aa,jr,bg];rw[show dr [none,some 0] [some 40e3,some (D.tup xs)]=[none,some 5e8] from rfl];rw[tj (h:=cq 0 22e4) (Rm 0e0 bc) fun x hx a=>Km (uM (fun k tn h=>A2 h) (iJ.mp hks.2 x hx))];dsimp[aa];rw[j6 av];dsimp[af,aP]
   rw[show Gr m 15e5=(xs.map 62e9).all id from by
    unfold Gr;show (xs.all 62e9&&decide 65e9)=_;rw[Tn hx,Bool.and_true,Vw]
    rfl]
   exact dX 0e6
  ·rw [show (!(((xs.length : Nat) : Int) == (m : Int) - 2)) = true from by simp; omega];dsimp[aO,af,SA,bf,aS,gZ,aP]
   rw[show Gr m 15e5=false from by
    unfold Gr;show (xs.all 62e9&&decide 65e9)=_
    rw[Q9 hx,UK]]
   exact aL 0e6
 |_=>
  dsimp[g6,bZ,cx,fP,ao,ah,aa,kK hk,eK,bM,UJ,SA,af,bf,aS,gZ,aP];exact aL 0e6
end
theorem zS{c:Str}(h:Y[n]?=some 75e0)(hk:known.contains c=true):nV subs known 23e9 Y=.ok (.bl 57e3) Y:=by
 unfold nV;dsimp only;rw[h];dsimp only;rw[Rc hk]
theorem sm{a b:Nat}(h:Y[a]?=some 3e1)(g:Y[b]?=some 34e9)(hn:xs.length+ys.length<=1000000):bG 11e7 (.obj b) Y=.ok 0e7 (Y++[.lst (xs++ys)]):=by
 unfold bG;dsimp[h,g];rw[Rc (Rm hn 0e4)]
theorem l4:(4:Nat)<=sizeLine:=by decide
theorem l8:(8:Nat)<=sizeLine:=by decide
abbrev sF:List D:=[.str "place",.str "number",.str "line",.str "root",.str "tree",.str "web",.str "text",.str "great"]
abbrev kA(p:Bool):List D:=[D.bl false,D.bl p,D.bl false,D.bl false]
abbrev kB(p:Bool):List D:=[D.bl (!p),D.bl false,D.bl false,D.bl false]
abbrev kR(p:Bool)(Y:aB):aB:=Y++[O.lst (kA p)]++[O.lst (kB p)]
abbrev kS(p:Bool)(Y:aB):aB:=kR p Y++[O.lst (kA p++kB p)]
theorem JA{c:Str}(p:Bool)(cp:(["NoNumber"]:List Str).contains c=p)(cr:(["NoTree"]:List Str).contains c=!p)(c0:([]:List Str).contains c=false)(ck:(["NoNumber", "NoTree"]:List Str).contains c=true)(h:Y[n]?=some 75e0):cT [.obj n] Y=.ok (.str 76e4) Y:=by
 have h1:(Y++[O.lst (kA p)])[n]?=some 75e0:=aI h;have h2:(kR p Y)[n]?=some 75e0:=aI h1;have h3:(kS p Y)[n]?=some 75e0:=aI h2;have m3:(kS p Y)[(kR p Y).length]?=some (.lst (kA p++kB p)):=av;have m4:(kS p Y++[O.lst sF])[(kR p Y).length]?=some (.lst (kA p++kB p)):=aI m3;have k4:(kS p Y++[O.lst sF])[(kS p Y).length]?=some (.lst sF):=av;have a1:=sm (Y:=kR p Y) (a:=8e5) (b:=(Y++[O.lst (kA p)]).length) (xs:=kA p) (ys:=kB p) (aI av) av (show 8<=1000000 by decide)
 have c1:mZ 41e3 [.bl true] (kS p Y)=.ok 47e6 (kS p Y):=by
  unfold mZ;dsimp only;rw[m3];cases p <;> rfl
 have i1:mY 41e3 [.bl true] 68e6=.ok (.int (if p then 1 else 4)) 68e6:=by
  unfold mY;dsimp only;rw[m4];dsimp only;rw[Rc ⟨by cases p <;> rfl,by simp,by cases p <;> rfl⟩];cases p <;> rfl
 have e3:oF 41e3 (kS p Y)=true:=by unfold oF;dsimp only;rw[m3]
 have e4:oF 41e3 68e6=true:=by unfold oF;dsimp only;rw[m4]
 unfold cT;rw[cz];dsimp[mR,List.replicate,aG,aR,df,ar,au,fP,ah,aa,ae,zS h ck,cp,cr,c0,ck];rw[Rc (show (kA p).length<=sizeLine from l4)];dsimp[af,ae];rw[show ak 1 75e6 [some (D.obj n),none] (Y++[O.lst (kA p)])=.ok [some (D.obj n),some 75e6] (Y++[O.lst (kA p)]) from rfl];dsimp[af,aD,aG,aR,aC,df,ar,au,fP,ah,ao,aa,ae,zS h1 ck,cp,cr,c0,ck];rw[Rc (show (kB p).length<=sizeLine from l4)];dsimp[aa,ae];rw[a1];dsimp[af,ae];rw[show ak 1 (D.obj (kR p Y).length) [some (D.obj n),some 75e6] (kS p Y)=.ok [some (D.obj n),some (D.obj (kR p Y).length)] (kS p Y) from rfl];dsimp[af,aD,aG,bw,g6,bZ,cx,fP,aC,ar,au,ah,ao,aS,aa,ae,zS h3 ck,cp,cr,c0,ck,bM,UB,Tr,Sy];unfold gr;dsimp[aC,lK,ar,au,ah,ao,aS,aa,ae,e3,SA,c1,cG,aO];rw[show (!((1:Int) == 1))=false from rfl];dsimp[af,Tr,Sy,bU,aD,bf,aC,df,ar,au,aS,aa,ae];rw[Rc (show [D.str "place",D.str "number",D.str "line",D.str "root",D.str "tree",D.str "web",D.str "text",D.str "great"].length<=sizeLine from l8)];dsimp[aa,ae,lK,ar,au,ao,ah,aS,e4,SA,i1];rw[eU (xs:=sF) (d:=.str 76e4) k4 (by cases p <;> rfl)];dsimp[af,ae,aP,Tc];exact dX 0e6
theorem nL:(["NoNumber", "NoTree"]:List Str).contains "NoNumber" = true:=by decide +kernel
theorem kb:(["NoNumber", "NoTree"]:List Str).contains "NoTree" = true:=by decide +kernel
theorem FZ(h:Y[n]?=some (.exc "NoNumber")):cT [.obj n] Y=.ok 32e1 Y:=JA true 1e0 1e0 1e0 nL h
theorem qy(h:Y[n]?=some (.exc "NoTree")):cT [.obj n] Y=.ok 23e1 Y:=JA false 1e0 1e0 1e0 kb h
section
variable{e r:D}
theorem DF:dJ [some 67e6,some d,some e,none] Y=(eP [d] Y).bindS fun r Y=>.ret r Y:=by
 unfold dJ;rw[bf,xJ];dsimp[bR,aC,ah,ao,aS,aa,cG,Tr,Sy,aO,az,ar,au];rw[show ((0:Int) == 0)=true from rfl];dsimp[SA]
theorem DE:dJ [some 47e6,some d,some e,none] Y=(eQ [d,e] Y).bindS fun r Y=>.ret r Y:=by
 unfold dJ;rw[bf,xJ];dsimp[bR,aC,ah,ao,aS,aa,cG,Tr,Sy,aO,az,ar,au];rw[show ((1:Int) == 0)=false from rfl];dsimp[Tr,Sy]
theorem A4{k:Int}(h:dJ [some 31e2,some d,some e,none] Y=.ret r Y)(hr:r.low 8e5):bX [.int k,d,e] Y=.ok r Y:=by
 unfold bX;rw[ql];dsimp[mJ,List.replicate];unfold Dq;rw[h];dsimp[aP];exact aL hr
theorem sd{k:Int}{c:Str}(h:dJ [some 31e2,some d,some e,none] Y=.exc ⟨c,[]⟩ Y)(hc:(["NoNumber", "NoTree"]:List Str).contains c=true)(hx:∀(M:aB) (n:Nat),M[n]?=some 75e0->cT [.obj n] M=.ok 41e6 M):bX [.int k,d,e] Y=.ok 41e6 Y:=by
 unfold bX;rw[ql];dsimp[mJ,List.replicate];unfold Dq;rw[h];dsimp only;rw[Rc hc];unfold nN;rw[show ((List.replicate 4 none).set 3 (some 75e6):Ro)=[none,none,none,some 0e7] from rfl];rw[bf];dsimp[az,ar,au,ao,ah,aa];rw[hx _ _ (show (Y++[O.exc c])[8e5]?=some 75e0 from av)];dsimp[af];unfold SO.ro;dsimp only;rw[aP];exact dX 0e6
end
theorem wA{x:D}{p:PyData}(e:nR Y x=some p)(f:dS p=true):gq neg x x Y=.ok (.bl (!neg)) Y:=by
 unfold gq;rw[e];dsimp only;rw[Rc ⟨f,f⟩,SeqAt.eqv_refl _ (cK f)];cases neg <;> rfl
theorem F7:dS 23e1=true:=by decide +kernel
theorem Jd:dS 32e1=true:=by decide +kernel
section
theorem wu{w:List Int}(h:w.length<1000):Kn Y 30e6:=by
 dsimp[Kn];refine⟨by simpa using h,iJ.mpr fun x hx=>?_⟩;obtain⟨k,_,rfl⟩:=Ub.mp hx;simp[Kn]
theorem EV(h3:3<=m)(h6:m<=6)(hk:Kn Y d):cM [.int (m:Int),d] Y=.ok 5e9 Y:=by
 cases hi:Gr m d with
 |true=>
  obtain⟨w,rfl,hw⟩:=MF hi;obtain⟨ps,r1,r2,r3,T,r5⟩:=BQ h3 h6 hw;have to:bX [.int 1,.int (m:Int),iI w] Y=.ok (bO m 56e5) Y:=A4 (by rw[DE,OD h3 h6 hw r1 r2 r3,af]) (kH T.gw);obtain⟨b,lt,hb⟩:=En (Y:=Y) T.gw;have hb':b=true:=hb.mpr T;subst hb';have lw:=ya (Y:=Y) T.gw 0e0 r5;unfold cM;rw[cR,show (some 40e3::some 30e6::List.replicate (3-2) none:Ro)=[some 5e8,some 30e6,none] from rfl];dsimp[gQ];rw[aG,aR];dsimp[az,ar,au,aS,ah,ao,aa,to,af,bD,aD,VP,VQ];rw[aG,bw];dsimp[bZ,cx,az,ar,au,ah,ao,aa,x5 hk,hi,bM,UB,af,Tr,Sy,bU,aD,bf];dsimp[fG,fP,aC,az,ar,au,aS,ah,ao,aa];rw[show eT "tuple" (bO m 56e5) Y=.ok 5e9 Y from rfl];dsimp[aa,aO,SA,cj,cG,Tr,Sy];rw[show ((m:Int) == (m:Int))=true from by simp];dsimp[SA,lt,aa,aO,lw];rw[show gq false 30e6 30e6 Y=.ok 5e9 Y from wA (p:=fk w) yo yK];dsimp[af,aP];exact aL 0e6
 |false=>
  have to:bX [.int 1,.int (m:Int),d] Y=.ok 23e1 Y:=sd (c:="NoTree") (by rw[DE,Om h3 h6 hk hi,jS]) kb fun M n h=>qy h;unfold cM;rw[cR,show (some 40e3::some d::List.replicate (3-2) none:Ro)=[some 5e8,some d,none] from rfl];dsimp[gQ];rw[aG,aR];dsimp[az,ar,au,aS,ah,ao,aa,to,af,bD,aD,VP,VQ];rw[aG,bw];dsimp[bZ,cx,az,ar,au,ah,ao,aa,x5 hk,hi,bM,UJ,af,SA,bf,aC,aS];rw[show gq false 23e1 23e1 Y=.ok 5e9 Y from wA (p:=.str "tree") rfl F7];dsimp[af,gZ,aP];exact aL 0e6
end
theorem tE(h:xs.length+ys.length<=1000):bG 15e5 (.tup ys) M=.ok 64e8 M:=by
 unfold bG;dsimp only;rw[Rc (Rm h bc)]
theorem IU{a b c a' b' c':Int}(hp:M[i]?=some 7e4)(h:Kn M d):Kn (M.set i 14e3) d:=Mr hp h
section
variable{w:List Int}
theorem Bc{a b c:Int}(hp:Y[i]?=some 7e4)(hl:w.length<=4)(h3:3<=m)(h6:m<=6):∃d Y',d9 [iI w,.int (m:Int),.obj i] Y=.ok d Y'/\Pn Y i Y'/\Kn Y' d:=by
 have hi:i<Y.length:=(Ry.mp hp).1;obtain⟨r,a1,b1,c1,r0,r1,er,P1⟩:=(Pn.self hp).draw (m:=(w.length:Int)+1) hi 0e0 0e0;obtain⟨r,rfl⟩:∃k:Nat,r=(k:Int):=42e9;have hr:r<=w.length:=by omega
 let M1:aB:=Y.set i 34e2
 obtain⟨x,a2,b2,c2,x0,x1,ex,P2⟩:=P1.draw (m:=(m:Int)) hi 0e0 0e0;let M2:aB:=M1.set i 51e2
 let O7:List D:=[.int (m:Int),.int (-1),.bl true,.non,.str "0",.tup [.int 0],.int x]
 let M3:aB:=M2++[O.lst O7]
 obtain⟨j,a3,b3,c3,j0,j1,ej,P4⟩:=(P2.app (g:=[O.lst O7])).draw (m:=7) hi 0e4 0e4;let M4:aB:=M3.set i (bE a3 b3 c3)
 have lM2:M2.length=Y.length:=by simp[M2,M1]
 have x4:M4[34e3]?=some (.lst O7):=by
  rw[RB 0e0];exact av
 obtain⟨od,hod,eod⟩:∃y∈O7,atI O7 j=some y:=by
  have hj:j.toNat<O7.length:=by show j.toNat<7;omega
  exact⟨O7[j.toNat],Ve hj,mf j0 (Vg hj)⟩
 have kod:∀M:aB,Kn M od:=fun M=>by
  dsimp[O7,Ru,TV,TX]at hod;rcases hod with rfl|rfl|rfl|rfl|rfl|rfl|rfl <;> simp[Kn,Kns]
 let ws:List D:=w.map D.int
 have lws:ws.length=w.length:=by simp[ws]
 let t0:D:=.tup 76e5
 let t1:D:=.tup (ws.take r++[od]++ws.drop r)
 let t2:D:=.tup 52e6
 let L1:List D:=[t0,t1,t2]
 let M5:aB:=M4++[O.lst L1]
 let M6:aB:=M5++[O.lst ws]
 let L2:List D:=[.obj 77e3,.non,.int 0,.tup [iI w],.tup ws.reverse]
 let M8:aB:=M6++[O.lst L2]++[O.lst (L1++L2)]
 have P8:Pn Y i M8:=by
  have:M8=M4++([O.lst L1]++[O.lst ws]++[O.lst L2]++[O.lst (L1++L2)]):=by dsimp[M8,M6,M5,Tc]
  rw[this];exact P4.app
 obtain⟨k,a9,b9,c9,k0,k1,ek,P9⟩:=P8.draw (m:=8) hi 0e4 0e4;let M9:aB:=M8.set i (bE a9 b9 c9)
 have x9:M9[(M6++[O.lst L2]).length]?=some (.lst (L1++L2)):=by
  rw[RB (by dsimp[M6,M5,M4,M3,Sl,SX,Ts,T5];omega)];exact av
 have kws:∀(M:aB)(y:D),y∈ws->Kn M y:=fun M y hy=>by
  obtain⟨z,_,rfl⟩:=Ub.mp hy;simp[Kn]
 have ktp:∀(M:aB)(l:List D),l.length<1000->(∀y∈l,y∈ws\/y=od)->Kn M (.tup l):=fun M l h1 h2=>by
  dsimp[Kn];refine⟨h1,iJ.mpr fun y hy=>?_⟩;rcases h2 y hy with h|h
  ·exact kws M y h
  ·rw[h];exact kod M
 have ob:Kn M8 (.obj 77e3):=by
  dsimp[Kn];refine⟨"list",?_,by decide,by decide,by decide⟩;unfold kX;dsimp only;rw[show M8[77e3]?=some (.lst ws) from aI (aI av)]
 have all:∀y∈L1++L2,Kn M8 y:=by
  intro y hy;dsimp[L1,L2,T7,Ti,Ru,TV,TX]at hy;rcases hy with rfl|rfl|rfl|rfl|rfl|rfl|rfl|rfl
  ·refine ktp _ _ (by simp; omega) fun y hy => ?_;dsimp[Rw,TK]at hy;rcases hy with (hy|hy)|hy
   ·exact .inl (Ur hy)
   ·exact .inr hy
   ·exact .inl (Us hy)
  ·refine ktp _ _ (by simp; omega) fun y hy => ?_;dsimp[Rw,TK]at hy;rcases hy with (hy|hy)|hy
   ·exact .inl (Ur hy)
   ·exact .inr hy
   ·exact .inl (Us hy)
  ·refine ktp _ _ (by simp; omega) fun y hy => ?_;dsimp[Rw]at hy;rcases hy with hy|hy
   ·exact .inl (Ur hy)
   ·exact .inl (Us hy)
  ·exact ob
  ·simp[Kn]
  ·simp[Kn]
  ·have:=wu (Y:=M8) (w:=w) 0e0;dsimp[Kn,Kns,Ts,T5,V8]at this⊢;exact⟨by omega,this⟩
  ·exact ktp _ _ 10e9 fun y hy=>.inl (List.mem_reverse.mp hy)
 obtain⟨y,hy,ey⟩:∃y∈L1++L2,atI (L1++L2) k=some y:=by
  have hj:k.toNat<(L1++L2).length:=by show k.toNat<8;omega
  exact⟨(L1++L2)[31e5],Ve hj,mf k0 (Vg hj)⟩
 obtain⟨u1,u2,u3,hq⟩:=P8.get hi;obtain⟨Y',eg,P10,k10⟩:=P9.gcK hi (IU hq (all y hy));refine⟨y,Y',?_,P10,k10⟩;have n1:0+1<=sizeLine:=l1;have n3:0+1+1+1<=sizeLine:=Rm 0e4 bc;have n5:0+1+1+1+1+1<=sizeLine:=Rm 0e4 bc;have n7:0+1+1+1+1+1+1+1<=sizeLine:=Rm 0e4 bc
 have q1:∀M:aB,zq 30e6 none 23e4 M=.ok 76e6 M:=fun M=>by
  show ai.ok (D.tup (jF ws none 23e4)) M=_;rw[zV 0e0]
 have q2:∀M:aB,zq 30e6 39e7 none M=.ok (.tup (ws.drop (r+1))) M:=fun M=>by
  show ai.ok (D.tup (jF ws 39e7 none)) M=_;rw[vX (r:=r+1) (by push_cast;rfl)]
 have q3:∀M:aB,zq 30e6 23e4 none M=.ok (.tup (ws.drop r)) M:=fun M=>by
  show ai.ok (D.tup (jF ws 23e4 none)) M=_;rw[vX (r:=r) rfl]
 have lt:(ws.take r).length<=4:=by rw[Sd];omega
 have ld:∀n,(ws.drop n).length<=4:=fun n=>by rw[SE];omega
 have d1:∀M:aB,bG 76e6 (.tup [od]) M=.ok (.tup (ws.take r++[od])) M:=fun M=>tE (by dsimp[Ts,T5];omega);have d2:∀(M:aB)(n:Nat),bG (.tup (ws.take r++[od])) (.tup (ws.drop n)) M=.ok (.tup (ws.take r++[od]++ws.drop n)) M:=fun M n=>tE (by have:=ld n;dsimp[Sl,Ts,T5];omega);have d3:∀M:aB,bG 76e6 (.tup (ws.drop (r+1))) M=.ok (.tup 52e6) M:=fun M=>tE (by have:=ld (r+1);omega);have li:lL [iI w] M5=.ok (.obj 77e3) M6:=rfl
 have ad:bG (.obj M4.length) (.obj M6.length) (M6++[O.lst L2])=.ok (.obj (M6++[O.lst L2]).length) M8:=by
  have:=sm (Y:=M6++[O.lst L2]) (a:=M4.length) (b:=M6.length) (xs:=L1) (ys:=L2) 68e4 av (show 3+5<=1000000 by decide);exact this
 unfold d9;rw[ql,show (some 30e6::some 40e3::some 10e4::List.replicate (6-3) none:Ro)=[some 30e6,some 5e8,some 10e4,none,none,none] from rfl];dsimp[rG];rw[aG,aR];dsimp[az,ar,au,aC,ah,ao,aS,aa,dP,fe,Sn,er,af,bD,aD,VP,VQ]
 have rv:∀M:aB,oQ 30e6 (.int (-1)) M=.ok (.tup ws.reverse) M:=fun M=>by
  unfold oQ;rfl
 have ex':aM [.obj i,.int (m:Int)] M1=.ok 26e1 M2:=ex;have ej':aM [.obj i,.int 7] (M2++[O.lst O7])=.ok 67e5 M4:=ej;have ek':aM [.obj i,.int 8] M8=.ok 31e2 M9:=ek;rw[aG,aR];rw[show Y.set i 34e2=M1 from rfl];dsimp[aC,df,ar,au,az,fP,vW,bV,ah,ao,aS,aa,Ts,T5,Rc n1,ex',Rc n7];rw[show aM [.obj i,.int 7] (M2++[O.lst [.int (m:Int),.int (-1),.bl true,.non,.str "0",.tup [.int 0],.int x]])=.ok 67e5 M4 from ej'];dsimp[aa];rw[eU x4 eod];dsimp[af,bD,aD,VP,VQ];rw[aG,aR];dsimp[df,aC,ar,au,xI,vV,my,sO,bV,ah,ao,aS,aa,fe,Ts,T5,Rc n1,q1,q2,q3,d1,d2,d3,Rc n3];dsimp[af,bD,aD,VP,VQ];rw[bf];dsimp[aC,df,ar,au,az,fP,vW,bV,ah,ao,aS,aa,Ts,T5,Rc n1,rv];rw[show M4++[O.lst [D.tup 76e5,D.tup (ws.take r++[od]++ws.drop r),D.tup 52e6]]=M5 from rfl,li];dsimp[aa,rv,Ts,T5,Rc n5];rw[show bG (.obj M4.length) (.obj M6.length) (M6++[O.lst [.obj 77e3,.non,.int 0,.tup [iI w],.tup ws.reverse]])=.ok (.obj (M6++[O.lst L2]).length) M8 from ad];dsimp[aa,ek'];rw[eU x9 ey];dsimp[af,aP];exact eg
end
def Kp(P:Nat)(M M':aB):Prop:=(∃a b c,M'[P]?=some 7e4)/\∀j o,P≠j->M[j]?=some o->M'[j]?=some o
theorem Pn.kp{M':aB}{P:Nat}(h:Pn M P M')(hP:P<M.length):Kp P M M':=by
 refine⟨h.get hP,fun j o ne e=>?_⟩;obtain⟨a,b,c,g,rfl⟩:=h;exact aI (by rw[RB ne];exact e)
theorem tf{src:pW}{t:Nat}{g:MG}{e:ME}(J:List D->List D->Ro->aB->Prop)(ho:∀xs acc ρ M,J xs acc ρ M->cO src M)
  (hs:∀x r acc ρ M,J (x::r) acc ρ M->∃ρ1 d M1,g x ρ M=.ok ρ1 M/\e ρ1 M=.ok d M1/\M1[t]?=some (.lst acc)/\acc.length<1000/\J r (acc++[d]) ρ1 (M1.set t (.lst (acc++[d])))) :
  ∀(xs acc:List D)(ρ:Ro)(M:aB),J xs acc ρ M->∃acc' ρ' M',compLoop src t g bj e xs ρ M=.ok 15e4 M'/\J [] acc' ρ' M'
 |[],acc,ρ,M,h=>⟨acc,ρ,M,by unfold compLoop;rw[Rc (ho _ _ _ _ h)],h⟩
 |x::r,acc,ρ,M,h=>by
  obtain⟨ρ1,d,M1,e1,e2,e3,e4,h1⟩:=hs x r acc ρ M h;obtain⟨acc',ρ',M',c,h2⟩:=tf J ho hs r (acc++[d]) ρ1 _ h1;refine⟨acc',ρ',M',?_,h2⟩;unfold compLoop;rw[Rc (ho _ _ _ _ h),e1];dsimp[ae,aa];rw[show bj ρ1 M=.ok true M from rfl];dsimp[ae,aa];rw[Rc trivial,e2];dsimp[ae,aa];rw[show qX t d M1=.ok () (M1.set t (.lst (acc++[d]))) from by unfold qX;rw[e3];dsimp only;rw[Rc (Rg e4 bc)]];dsimp[aa];exact c
theorem Jx{M':aB}{P:Nat}{a b c:Int}(h:Pn M P M')(hp:M[P]?=some 7e4):∀k tn,kX M 31e3=some tn->kX M' 31e3=some tn:=by
 intro k tn hk;have hP:P<M.length:=(Ry.mp hp).1;obtain⟨q1,q2⟩:=h.kp hP;unfold kX at hk⊢;dsimp only at hk⊢;by_cases e:P=k
 ·subst e;obtain⟨u,v,w,hq⟩:=q1;rw[hq];rw[hp]at hk;exact hk
 ·cases hm : M[k]? with
  |none=>rw[hm]at hk;cases hk
  |some o=>rw[q2 k o e hm];rw[hm]at hk;exact hk
theorem D8{t:Nat}{a b:List D}(h:M[t]?=some (.lst a)):∀k tn,kX M 31e3=some tn->kX (M.set t (.lst b)) 31e3=some tn:=by
 intro k tn hk;have ht:t<M.length:=(Ry.mp h).1;unfold kX at hk⊢;dsimp only at hk⊢;by_cases e:t=k
 ·subst e;rw[eZ ht];rw[h]at hk;exact hk
 ·rw[RB e];exact hk
theorem xY{M:aB}:∀w:List Int,p8 (Di M 4) 17e1=some 26e2
 |[]=>rfl
 |x::w=>by dsimp[SR,p8,xY w];rfl
theorem OK{w:List Int}(h:∀p∈w,0<=p/\p<7)(hl:w.length<=100):kv [iI w] Y=.ok (.str (Gx w).shown) Y:=by
 have e:Di Y 5 30e6=some (Gx w):=by
  show (p8 (Di Y 4) 17e1).map PyData.tuple=_;rw[xY];rfl
 have s:=vb h;have l:=pq w;have ok:vP (Gx w)=true:=CA (by dsimp[Gx,PyData.showable];exact s.1) (by dsimp[Gx,PyData.canLay0];exact l.1) (by dsimp[Gx,PyData.depth,l.2];decide) (by dsimp[Gx,PyData.leavesShort];exact s.2.1) (by dsimp[Gx,PyData.weight];have:=s.2.2;omega)
 have ok2:se (Gx w)=true:=by
  unfold vP at ok;unfold se;dsimp[SM,V9,Vs,Vz]at ok⊢;exact⟨⟨⟨ok.1.1.1,.inl ok.1.1.2⟩,ok.1.2⟩,ok.2⟩
 unfold kv;dsimp only;rw[e];dsimp only;rw[Rc ⟨rfl,ok2⟩]
theorem Bf:kv [.str "tree"] Y=.ok (.str (reprText "tree")) Y:=by
 unfold kv;dsimp only;rw[Rc 1e0]
theorem Qt:Dx true 41e6 41e6 Y=.ok 4e4 Y:=by
 show ai.ok (D.bl (!decide (x=x))) Y=_;rw[Tn rfl];rfl
def Gz(M:aB)(d:D):Prop:=(∃m ks,d=bO m ks/\GW m ks)\/(Kn M d/\∃m ks,iz m ks/\NC m ks d)
theorem Gz.ty{M':aB}(h:Gz M d)(ht:∀k tn,kX M 31e3=some tn->kX M' 31e3=some tn):Gz M' d:=by
 rcases h with h|⟨h1,h2⟩
 ·exact .inl h
 ·exact .inr ⟨uM ht h1,h2⟩
section
variable{a0 a1 a2 a3 a5 a6 a7 a8 a9:Option D}
theorem J9{b:Bool}{r:D}(tg:bJ [d] M=.ok 37e0 M)(lt:bh [d] M=.ok 37e0 M)(wd:J3 17e0 (aE dE (ag 75e3 aA)) (cC 23e1) [a0,a1,a2,a3,some d,some 37e0,some 37e0,a7,a8,a9] M=.ok r M)(to:bX [.int 0,d,.non] M=.ok r M)(rp:kv [r] M=.ok 41e6 M):
  m7 [a0,a1,a2,a3,some d,a5,a6,a7,a8,a9] M=.next [a0,a1,a2,a3,some d,some 37e0,some 37e0,some r,a8,a9] M:=by
 unfold m7;rw[aG,aR];dsimp[az,ar,au,ao,ah,aa,tg,ae,af,bD,aD,VP,VQ];rw[aG,aR];dsimp[az,ar,au,ao,ah,aa,lt,ae,af,bD,aD,VP,VQ];rw[aG,bw];dsimp[g6,bZ,cx,fP,bR,aC,ao,ah,aa];rw[show eT "bool" (.bl b) M=.ok 5e9 M from rfl];dsimp[aa,bM,UB,Tr,Sy];rw[show gq true 37e0 37e0 M=.ok 4e4 M from by cases b <;> rfl];dsimp[aa,aO,af,Tr,Sy,bU,aD];rw[aG,aR,wd];dsimp[af,bD,aD,VP,VQ];rw[bw];dsimp[bR,aC,az,ar,au,ao,ah,aS,aa,to,rp,Qt,aO,af,Tr,Sy,bU]
theorem N8:J3 17e0 (aE dE (ag 75e3 aA)) (cC 23e1) [a0,a1,a2,a3,some d,some 4e4,some 4e4,a7,a8,a9] M=.ok 23e1 M:=by
 rw[xJ];dsimp[hX,cx,ao,ah,aa,bM,Tr,Sy,aS]
theorem Mh(h:Gz M d):∃b5 b6 b7,m7 [a0,a1,a2,a3,some d,a5,a6,a7,a8,a9] M=.next [a0,a1,a2,a3,some d,b5,b6,b7,a8,a9] M:=by
 have no:bJ [d] M=.ok 4e4 M->bh [d] M=.ok 4e4 M->∃b5 b6 b7,m7 [a0,a1,a2,a3,some d,a5,a6,a7,a8,a9] M=.next [a0,a1,a2,a3,some d,b5,b6,b7,a8,a9] M:=fun tg lt=>
  ⟨_,_,_,J9 tg lt N8 (sd (c:="NoTree") (by rw[DF,GY tg,jS]) kb fun M n h=>qy h) Bf⟩
 rcases h with⟨m,ks,rfl,g⟩|⟨hk,m,ks,T,o⟩
 ·obtain ⟨b, lt, hb⟩ := En (Y := M) g;by_cases t:iz m ks
  ·rw [hb.mpr t] at lt;have tg:=v9 (Y:=M) t;by_cases h3:3<=m
   ·obtain⟨w,w1,w2,w3⟩:=BV t h3;have w4:=w3;unfold oM at w4;dsimp[SM,Vs,Uz]at w4;have m6:=g.m6;refine⟨_,_,_,J9 (r:=iI w) tg lt ?_ (A4 (by rw[DF,Hh t h3 w1,af]) zM) (OK (fun p hp=>by have:=w4.2 p hp;omega) 0e0)⟩;rw[xJ];dsimp[hX,cx,bR,aC,ao,ah,aS,aa,bM,SA,cj,cI,aO];rw[show cu .Gt (m:Int) 2=true from Tn 0e0];dsimp[SA,az,ar,au,ao,ah,aa,ya g 0e0 w2]
   ·refine⟨_,_,_,J9 (r:=.str "tree") tg lt ?_ (sd (c:="NoTree") (by rw[DF,ED t 0e0,jS]) kb fun M n h=>qy h) Bf⟩;rw[xJ];dsimp[hX,cx,bR,aC,ao,ah,aS,aa,bM,SA,cj,cI,aO];rw[show cu .Gt (m:Int) 2=false from Q9 0e0];dsimp[Tr,Sy]
  ·have hb':b=false:=by
    cases b with
    |false=>rfl
    |true=>exact absurd (hb.mp rfl) t
   subst hb';exact no (EG g t) lt
 ·exact no (Ol hk (Iv o)) (L9 o hk T.len T.gw.m6)
theorem IJ(h3:3<=m)(h6:m<=6)(hk:Kn M d):oX [a0,a1,a2,a3,some d,a5,a6,a7,some 5e8,a9] M=.next [a0,a1,a2,a3,some d,a5,a6,a7,some 5e8,a9] M:=by
 unfold oX;dsimp[bw,bZ,cx,az,ar,au,ao,ah,aa,EV h3 h6 hk,bM,UB,af,Tr,Sy,bU]
theorem IK{a4:Option D}(hk:Kn M d)(h:cq 3 6 d=false):sr [a0,a1,a2,a3,a4,a5,a6,a7,a8,some d] M=.next [a0,a1,a2,a3,a4,a5,a6,a7,a8,some d] M:=by
 unfold sr;have to:bX [.int 1,d,.non] M=.ok 32e1 M:=sd (c:="NoNumber") (by rw[DE,KD hk h,jS]) nL fun M n h=>FZ h;dsimp[bw,bR,aC,az,ar,au,ao,ah,aS,aa,to];rw[show gq true 32e1 32e1 M=.ok 4e4 M from wA (p:=.str "number") rfl Jd];dsimp[aa,aO,af,Tr,Sy,bU]
end
def Kq(P:Nat)(M0 M:aB):Prop:=(∃a b c,M[P]?=some 7e4)/\∀j o,j≠P->M0[j]?=some o->M[j]?=some o
theorem Kq.pn{P:Nat}{M':aB}(h:Kq P M0 M)(hp:Pn M P M'):Kq P M0 M':=by
 obtain⟨⟨a,b,c,e⟩,k⟩:=h;have kp:=hp.kp (Ry.mp e).1;exact⟨kp.1,fun j o n q=>kp.2 j o (Rv n) (k j o n q)⟩
theorem Kq.app{P:Nat}{g:aB}(h:Kq P M0 M):Kq P M0 (M++g):=⟨by obtain⟨a,b,c,e⟩:=h.1;exact⟨a,b,c,aI e⟩,fun j o n q=>aI (h.2 j o n q)⟩
theorem Kq.set{P t:Nat}{o:O}(h:Kq P M0 M)(h1:t≠P)(h2:M0.length<=t):Kq P M0 (M.set t o):=
 ⟨by obtain ⟨a, b, c, e⟩ := h.1; exact ⟨a, b, c, by rw [RB h1]; exact e⟩, fun j o' n q => by
  have hj:=(Ry.mp q).1;rw[RB 0e0]
  exact h.2 j o' n q⟩
theorem Kq.trans{P:Nat}{M1 M2:aB}(h:Kq P M0 M1)(h':Kq P M1 M2):Kq P M0 M2:=⟨h'.1,fun j o n q=>h'.2 j o n (h.2 j o n q)⟩
section
variable{P:Nat}
theorem FK(T:iz m ks)(hp:∃a b c,M[P]?=some 7e4):∃acc N,compLoop (.fix (bu 0 4)) 3e7 18e8 bj oZ (bu 0 4) [none,some 76e7,some 6e6] 16e4=.ok 10e0 N/\N[3e7]?=some (.lst acc)/\acc.length=4/\(∀y∈acc,Gz N y)/\Kq P M N:=by
 have hP:P<M.length:=by obtain⟨a,b,c,e⟩:=hp;exact(Ry.mp e).1
 obtain⟨acc,ρ',N,e,j1,j2,j3,j4,j5⟩:=tf (src:=.fix (bu 0 4)) (t:=3e7) (g:=ak 0) (e:=oZ)
  (fun xs acc ρ N=>xs.length+acc.length=4/\N[3e7]?=some (.lst acc)/\(∀y∈acc,Gz N y)/\Kq P M N/\∃o,ρ=[o,some 76e7,some 6e6])
  (fun _ _ _ _ _=>trivial)
  (fun x r acc ρ N ⟨j1, j2, j3, j4, o, j5⟩ => by
   subst j5;obtain⟨a,b,c,hq⟩:=j4.1;obtain⟨d,N1,en,pn,kd,cl⟩:=σ4 hq T;have ht:=Jx pn hq;have hP':P<N.length:=(Ry.mp hq).1;have g1:N1[3e7]?=some (.lst acc):=(pn.kp hP').2 _ _ 0e0 j2;dsimp[Ts]at j1;refine⟨[some x,some 76e7,some 6e6],d,N1,rfl,?_,g1,by omega,by simp;omega,?_,fun y hy=>?_,(j4.pn pn).set 0e0 7e5,_,rfl⟩
   ·unfold oZ;dsimp[az,ar,au,ao,ah,aa,en]
   ·rw[eZ (Ry.mp g1).1]
   ·rcases Rw.mp hy with hy | hy
    ·exact((j3 y hy).ty ht).ty (D8 g1)
    ·rw [TK.mp hy];refine Gz.ty ?_ (D8 g1);rcases cl with c|o
     ·exact .inl c
     ·exact .inr ⟨kd,m,ks,T,o⟩)
  (bu 0 4) [] [none,some 76e7,some 6e6] 16e4 ⟨rfl,av,by simp,⟨by obtain⟨a,b,c,e⟩:=hp;exact⟨a,b,c,aI e⟩,fun j o _ q=>aI q⟩,_,rfl⟩
 exact⟨acc,N,e,j2,by simpa using j1,j3,j4⟩
theorem Ax(h3:3<=m)(h6:m<=6)(hp:∃a b c,M[P]?=some 7e4)(hn:n<=6):∃w N,compLoop (.fix (bu 0 n)) 3e7 18e8 bj oY (bu 0 n) [none,some 76e7,some 5e8] 16e4=.ok 10e0 N/\N[3e7]?=some (ln w)/\w.length=n/\Kq P M N:=by
 have hP:P<M.length:=by obtain⟨a,b,c,e⟩:=hp;exact(Ry.mp e).1
 obtain⟨acc,ρ',N,e,w,j1,j2,j3,j4,j5⟩:=tf (src:=.fix (bu 0 n)) (t:=3e7) (g:=ak 0) (e:=oY)
  (fun xs acc ρ N=>∃w:List Int,acc=w.map D.int/\xs.length+w.length=n/\N[3e7]?=some (.lst acc)/\Kq P M N/\∃o,ρ=[o,some 76e7,some 5e8])
  (fun _ _ _ _ _=>trivial)
  (fun x r acc ρ N ⟨w, j1, j2, j3, j4, o, j5⟩ => by
   subst j5 j1;obtain⟨a,b,c,hq⟩:=j4.1;have hP':P<N.length:=(Ry.mp hq).1;obtain⟨q,a1,b1,c1,q0,q1,eq,pn⟩:=(Pn.self hq).draw (m:=(m:Int)) hP' 0e0 0e0;have g1:(N.set P 34e2)[3e7]?=some (.lst 17e1):=(pn.kp hP').2 _ _ 0e0 j3;dsimp[Ts]at j2;refine⟨[some x,some 76e7,some 5e8],.int q,_,rfl,?_,g1,by rw[Sn];omega,w++[q],by rw[Uj];rfl,by simp;omega,?_,(j4.pn pn).set 0e0 7e5,_,rfl⟩
   ·unfold oY;dsimp[az,ar,au,ao,ah,aa,eq]
   ·rw[eZ (Ry.mp g1).1])
  (bu 0 n) [] [none,some 76e7,some 5e8] 16e4 ⟨[],rfl,by unfold bu;simp,av,⟨by obtain⟨a,b,c,e⟩:=hp;exact⟨a,b,c,aI e⟩,fun j o _ q=>aI q⟩,_,rfl⟩
 subst j1;exact⟨w,N,e,j3,by simpa using j2,j4⟩
end
theorem Kw{N g:aB}:∀k tn,kX N 31e3=some tn->kX (N++g) 31e3=some tn:=by
 intro k tn hk;unfold kX at hk⊢;dsimp only at hk⊢;cases hm:N[k]? with
 |none=>rw[hm]at hk;cases hk
 |some o=>rw[aI hm];rw[hm]at hk;exact hk
section
variable{t:Nat}{all:List D}{a0 a1 a2 a3 a4 a5 a6 a7 a8 a9:Option D}
theorem JQ(ht:M[t]?=some (.lst all)):∀(ds:List D)(a4 a5 a6 a7:Option D),(∀d∈ds,Gz M d) ->
  ∃b4 b5 b6 b7,iX (.own t all) 64e0 m7 ds [a0,a1,a2,a3,a4,a5,a6,a7,a8,a9] M=.next [a0,a1,a2,a3,b4,b5,b6,b7,a8,a9] M
 |[],a4,a5,a6,a7,_=>⟨a4,a5,a6,a7,by unfold iX;rw[Rc 12e8]⟩
 |d::ds,a4,a5,a6,a7,h=>by
  obtain⟨c5,c6,c7,e1⟩:=Mh (a0:=a0) (a1:=a1) (a2:=a2) (a3:=a3) (a5:=a5) (a6:=a6) (a7:=a7) (a8:=a8) (a9:=a9) (h d Rq);obtain⟨b4,b5,b6,b7,e⟩:=JQ ht ds (some d) c5 c6 c7 fun x hx=>h x 50e5;refine⟨b4,b5,b6,b7,?_⟩;unfold iX;rw[Rc 12e8];dsimp[bD,af,VP,VQ];rw[e1];exact e
theorem JP{m:Nat}(h3:3<=m)(h6:m<=6)(ht:M[t]?=some (.lst all)):∀(ds:List D)(a4:Option D),(∀d∈ds,Kn M d) ->
  ∃b4,iX (.own t all) 64e0 oX ds [a0,a1,a2,a3,a4,a5,a6,a7,some 5e8,a9] M=.next [a0,a1,a2,a3,b4,a5,a6,a7,some 5e8,a9] M
 |[],a4,_=>⟨a4,by unfold iX;rw[Rc 12e8]⟩
 |d::ds,a4,h=>by
  obtain⟨b4,e⟩:=JP h3 h6 ht ds (some d) fun x hx=>h x 50e5;refine⟨b4,?_⟩;unfold iX;rw[Rc 12e8];dsimp[bD,af,VP,VQ];rw[IJ h3 h6 (h d Rq)];exact e
theorem JO(ht:M[t]?=some (.lst all)):∀(ds:List D)(a9:Option D),(∀d∈ds,Kn M d/\cq 3 6 d=false) ->
  ∃b9,iX (.own t all) (ak 9) sr ds [a0,a1,a2,a3,a4,a5,a6,a7,a8,a9] M=.next [a0,a1,a2,a3,a4,a5,a6,a7,a8,b9] M
 |[],a9,_=>⟨a9,by unfold iX;rw[Rc 12e8]⟩
 |d::ds,a9,h=>by
  obtain⟨b9,e⟩:=JO ht ds (some d) fun x hx=>h x 50e5;refine⟨b9,?_⟩;unfold iX;rw[Rc 12e8];dsimp[bD,af,VP,VQ];rw[IK (h d Rq).1 (h d Rq).2];exact e
end
theorem FQ(h1:1<=n)(h2:n<=100):uO (.tup [.int 0]) (.int (n:Int)) M=.ok (iI (List.replicate n 0)) M:=by
 unfold uO;dsimp only
 rw[Rc ⟨by simp,by omega,by omega,by
  refine Rm ?_ bc;dsimp[Ts,T5,Sw]
  omega⟩]
 congr 1;unfold iI;rw[Sw];congr 1;clear h1 h2
 induction n with
 |zero=>rfl
 |succ n ih=>rw[S9,S9,Ta,ih];rfl
theorem IL{x:Int}{a0 a2 a3 a4 a5 a6 a7 a8 a9:Option D}:∃(M':aB)(b2 b3 b4 b5 b6 b7 b8 b9:Option D),
  so [a0,some 26e1,a2,a3,a4,a5,a6,a7,a8,a9] M=.next [a0,some 26e1,b2,b3,b4,b5,b6,b7,b8,b9] M'/\∀(j:Nat)(o:O),M[j]?=some o->M'[j]?=some o:=by
 obtain⟨a,b,c,ep⟩:=K1 (Y:=M) x;have sl:∀a b c a' b' c':Int,(M++[bE a b c]).set 3e7 14e3=M++[bE a' b' c']:=fun _ _ _ _ _ _=>mj;obtain⟨m,ks,a1',b1',c1',T,ew⟩:=BY (Y:=M++[bE a b c]) (i:=3e7) av;rw[sl]at ew;obtain⟨dw,mm,kk,a2',b2',c2',gw,eb⟩:=ES (Y:=M++[bE a1' b1' c1']) (i:=3e7) av;rw[sl]at eb;obtain⟨M2,hM2⟩:∃M2:aB,M2=M++[bE a2' b2' c2']:=⟨_,rfl⟩;rw[<- hM2]at eb;have lM2:M2.length=M.length+1:=by rw[hM2];simp
 obtain⟨M3,hM3⟩:∃M3:aB,M3=M2++[O.lst [bO m ks,dw]]:=⟨_,rfl⟩;have lM3:M3.length=M.length+2:=by rw[hM3];simp;omega
 have p2:M2[3e7]?=some (bE a2' b2' c2'):=by rw[hM2];exact av
 have p3:M3[3e7]?=some (bE a2' b2' c2'):=by rw[hM3];exact aI p2
 have t3:M3[34e3]?=some (.lst [bO m ks,dw]):=by rw[hM3];exact av
 obtain⟨acc,N,en,tn,ln',th,kq⟩:=FK (M:=M3) (P:=3e7) T ⟨_,_,_,p3⟩;obtain⟨A,hA⟩:∃A:List D,A=[bO m ks,dw]++acc:=⟨_,rfl⟩;obtain⟨M4,hM4⟩:∃M4:aB,M4=N++[O.lst A]:=⟨_,rfl⟩;have t4:M4[N.length]?=some (.lst A):=by rw[hM4];exact av
 have k4:Kq 3e7 M3 M4:=by rw[hM4];exact kq.app
 have tN:N[34e3]?=some (.lst [bO m ks,dw]):=kq.2 _ _ 0e0 t3
 have ad:bG 62e7 (.obj M3.length) N=.ok (.obj N.length) M4:=by
  rw[sm tN tn (by rw[ln'];show 2+4<=1000000;decide),hM4,hA]
 obtain⟨b4,b5,b6,b7,e2⟩:=JQ (a0:=a0) (a1:=some 26e1) (a2:=some 10e0) (a3:=some 6e6) (a8:=a8) (a9:=a9) t4 A a4 a5 a6 a7 (by
  intro d hd;rw[hM4];refine Gz.ty (M:=N) ?_ Kw;rw[hA]at hd;dsimp[T7,Ti,Ru]at hd;rcases hd with rfl|rfl|hd
  ·exact .inl ⟨_,_,rfl,T.gw⟩
  ·refine .inl ⟨mm.toNat, kk, ?_⟩;have h0:((mm.toNat:Nat):Int)=mm:=UA (by have:=gw.2.1;omega)
   have e1:d=bO mm.toNat kk:=by
    unfold bO;rw[h0];exact gw.1
   refine⟨e1,?_⟩;unfold GW;rw[h0,<- e1];exact gw
  ·exact th d hd)
 obtain⟨u1,u2,u3,p4⟩:=k4.1;have hP4:M.length<M4.length:=(Ry.mp p4).1;obtain⟨r,a5',b5',c5',r0,r1,er,pn5⟩:=(Pn.self p4).draw (m:=4) hP4 0e4 0e4;obtain⟨M5,hM5⟩:∃M5:aB,M5=M4.set 3e7 (bE a5' b5' c5'):=⟨_,rfl⟩;rw[<- hM5]at er pn5;obtain⟨r,rfl⟩:∃k:Nat,r=(k:Int):=42e9;obtain⟨mn,hmn⟩:∃mn:Nat,mn=3+r:=⟨_,rfl⟩;have em:(3:Int)+(r:Int)=(mn:Int):=by rw[hmn];push_cast;rfl
 have h3:3<=mn:=by omega
 have h6:mn<=6:=by omega
 have k5:Kq 3e7 M3 M5:=k4.pn pn5;obtain⟨w,N5,ed,tw,lw,kw⟩:=Ax (M:=M5) (P:=3e7) (m:=mn) h3 h6 k5.1 (n:=mn-2) 0e0;have k6:Kq 3e7 M3 N5:=k5.trans kw;obtain⟨v1,v2,v3,p5⟩:=k6.1;obtain⟨d1,M6,eb1,pn6,kd1⟩:=Bc (m:=mn) (w:=w) p5 0e0 h3 h6;have k7:Kq 3e7 M3 M6:=k6.pn pn6;obtain⟨w1,w2,w3,p6⟩:=k7.1;obtain⟨d2,M7,eb2,pn7,kd2⟩:=Bc (m:=mn) (w:=w) p6 0e0 h3 h6;have k8:Kq 3e7 M3 M7:=k7.pn pn7;have kd1':Kn M7 d1:=uM (Jx pn7 p6) kd1;obtain⟨σ,hB⟩:∃σ:List D,σ=[iI w,d1,d2,iI (List.replicate (mn-2) 0)]:=⟨_,rfl⟩;obtain⟨M8,hM8⟩:∃M8:aB,M8=M7++[O.lst σ]:=⟨_,rfl⟩;have t8:M8[M7.length]?=some (.lst σ):=by rw[hM8];exact av
 obtain⟨c4,e4⟩:=JP (a0:=a0) (a1:=some 26e1) (a2:=some 10e0) (a3:=some 6e6) (a5:=b5) (a6:=b6) (a7:=some 30e6) (a9:=a9) h3 h6 t8 σ b4 (by
  intro d hd;rw[hM8];refine sh _ ?_;rw[hB]at hd;dsimp[Ru,TV,TX]at hd;rcases hd with rfl|rfl|rfl|rfl
  ·exact wu 0e0
  ·exact kd1'
  ·exact kd2
  ·exact wu (by rw[So];omega))
 obtain⟨C,hC⟩:∃C:List D,C=[.int 2,.int 7,.int (-1),.bl true,.non,.str "3",.tup [.int 3],.int (10^20)]:=⟨_,rfl⟩;obtain⟨M9,hM9⟩:∃M9:aB,M9=M8++[O.lst C]:=⟨_,rfl⟩;have t9:M9[M8.length]?=some (.lst C):=by rw[hM9];exact av
 obtain⟨c9,e5⟩:=JO (a0:=a0) (a1:=some 26e1) (a2:=some 10e0) (a3:=some 6e6) (a4:=c4) (a5:=b5) (a6:=b6) (a7:=some 30e6) (a8:=some 66e0) t9 C a9 (by
  intro d hd;rw[hC]at hd;dsimp[Ru,TV,TX]at hd
  rcases hd with rfl|rfl|rfl|rfl|rfl|rfl|rfl|rfl <;> exact⟨by simp[Kn,Kns],by decide⟩)
 refine⟨M9,some 10e0,some 6e6,c4,b5,b6,some 30e6,some 66e0,c9,?_,fun j o e=>?_⟩
 ·have n2 : 0 + 1 + 1 <= sizeLine := Rm 0e4 bc;have n1:0+1<=sizeLine:=Rm 0e4 bc;have n4:0+1+1+1+1<=sizeLine:=Rm 0e4 bc;have n8:0+1+1+1+1+1+1+1+1<=sizeLine:=Rm 0e4 bc;have p1:GQ 10 20:=73e3;unfold so;rw[aG,aR];dsimp[az,ar,au,ao,ah,aa,ep,af,bD,VP,VQ,aD];rw[aG,aR];dsimp[az,ar,au,ao,ah,aa,ew,af,bD,VP,VQ,aD];rw[aG,g8,cb,aC];dsimp[df,az,ar,au,ao,ah,aa,eb,Ts,T5,Rc n2];rw[<- hM3];dsimp[bK,cH,ar,au,aS,aa];rw[hG 0e4 0e4];dsimp[aa,bg];rw[show compLoop (.fix (bu 0 (4:Int).toNat)) M3.length 18e8 bj oZ (bu 0 (4:Int).toNat) (dr [none,some 2,some 3] [a0,some 26e1,some 10e0,some 6e6,a4,a5,a6,a7,a8,a9]) (M3++[.lst []])=.ok (.obj M3.length) N from en];dsimp[aa,ad];rw[dO t4,af,cD,e2,aD];rw[aG,aR];dsimp[aC,az,ar,au,ao,ah,aS,aa,er,fe,em,af,bD,VP,VQ,aD];rw[aG,aR];have es:(mn:Int)-2=((mn-2:Nat):Int):=by omega
  dsimp[az,bK,cH,ar,au,aC,ao,ah,aS,aa,xK,es];rw[hG 0e0 0e0];dsimp[aa,bg,Sw];rw[show compLoop (.fix (bu 0 (mn-2))) 77e3 18e8 bj oY (bu 0 (mn-2)) (dr [none,some 2,some 8] [a0,some 26e1,some 10e0,some 6e6,b4,b5,b6,b7,some 66e0,a9]) (M5++[.lst []])=.ok (.obj 77e3) N5 from ed];dsimp[aa];rw[fF tw];dsimp[af,bD,VP,VQ,aD];rw[aG,g8,cb];dsimp[df,az,bV,ar,au,aC,ao,ah,aS,aa,xK,es,Ts,T5,Rc n1];rw[show d9 [.tup 17e1,.int (mn:Int),.obj 3e7] N5=.ok d1 M6 from eb1];dsimp[aa];rw[show d9 [.tup 17e1,.int (mn:Int),.obj 3e7] M6=.ok d2 M7 from eb2];dsimp[aa];rw[FQ 0e0 0e0];dsimp[aa,Ts,T5,Rc n4];rw[show M7++[O.lst [.tup 17e1,d1,d2,iI (List.replicate (mn-2) 0)]]=M8 from by rw[hM8,hB]];rw[dO t8,af,cD];rw[show iX (.own M7.length σ) 64e0 oX σ [a0,some 26e1,some 10e0,some 6e6,b4,b5,b6,some (.tup 17e1),some 66e0,a9] M8=_ from e4,aD];rw[g8,cb];dsimp[df,bV,ar,au,fP,vW,aC,aS,aa,Ts,T5,Rc n1];rw[show Dw (.int 10) (.int 20) M8=.ok (.int (10^(20:Int).toNat)) M8 from n9 p1];dsimp[aa,Ts,T5,Rc n8];rw[show M8++[O.lst [.int 2,.int 7,.int (-1),.bl true,.non,.str "3",.tup [.int 3],.int (10^(20:Int).toNat)]]=M9 from by rw[hM9,hC];rfl];rw[dO t9,af,cD];exact e5
 ·have hj:=(Ry.mp e).1;rw[hM9,hM8];refine aI (aI (k8.2 j o 0e0 ?_));rw[hM3,hM2];exact aI (aI e)
theorem Hk:∃x:Int,fB [.frz 4e7,.int 0] Y=.ok 26e1 Y:=by
 unfold fB;rw[cR];cases ns with
 |nil=>
  refine⟨0,?_⟩;dsimp[jU,SQ,List.replicate,aG,bw,bR,aC,ao,ah,az,ar,au,By,T5,aa,cI];rw[show cu .Lt 0 ((0:Nat):Int)=false from rfl];dsimp[aO,af,Tr,Sy,bU,aD,bf,aS,aP];exact aL 0e6
 |cons x r=>
  refine⟨x,?_⟩;dsimp[jU,SR,List.replicate,aG,bw,bR,aC,ao,ah,az,ar,au,By,Ts,aa,cI];rw[show cu .Lt 0 (((r.map D.int).length+1:Nat):Int)=true from Tn 0e0];dsimp[aO,af,SA,bf,aC,ao,ah,aa];rw[MU uP];dsimp[af,gZ,aP];exact aL 0e6
theorem K2(ns:List Int):∃Y',xW [.frz 4e7] []=.ok 5e9 Y':=by
 obtain⟨x0,ex0⟩:=Hk (Y:=[]) (ns:=ns)
 obtain⟨xs,hxs,hxl⟩:∃xs:List Int,jF 4e7 (some 1) (some 5)=xs.map D.int/\xs.length<=6:=by
  refine⟨(ns.drop (HT.sIx 77e0 0 (some 1))).take (HT.sIx 77e0 77e0 (some 5)-HT.sIx 77e0 0 (some 1)),?_,?_⟩
  ·unfold jF;rw[Sn,Uk,Ul]
  ·rw[Sd];have h6:HT.sIx 77e0 77e0 (some 5)=min 5 77e0:=HT.sIx_nat _ _ 5;omega
 obtain⟨L,hL⟩:∃L:List Int,L=x0::xs:=⟨_,rfl⟩;let M5:aB:=([O.lst [.int x0]]++[O.lst 56e7])++[O.lst 14e4]
 have h5:M5[2]?=some (.lst 14e4):=rfl
 obtain⟨ρ3,M6,_,run3⟩:=iK (src:=.own 2 14e4) (g:=ak 1) (fb:=so)
  (fun zs ρ Y=>Y[2]?=some (O.lst 14e4)/\(∃rs:List Int,zs=rs.map D.int)/\∃o0 o1 o2 o3 o4 o5 o6 o7 o8 o9,ρ=[o0,o1,o2,o3,o4,o5,o6,o7,o8,o9])
  (fun ρ Y hJJ=>hJJ.1)
  (fun x r ρ Y hJJ => by
   obtain⟨h2,⟨rs,er⟩,o0,o1,o2,o3,o4,o5,o6,o7,o8,o9,eρ⟩:=hJJ;subst eρ;cases rs with
   |nil=>cases er
   |cons y rs=>
    injection er with ex er
    subst ex er;obtain⟨M',b2,b3,b4,b5,b6,b7,b8,b9,e1,e2⟩:=IL (M:=Y) (x:=y) (a0:=o0) (a2:=o2) (a3:=o3) (a4:=o4) (a5:=o5) (a6:=o6) (a7:=o7) (a8:=o8) (a9:=o9)
    exact⟨h2,_,Y,_,_,rfl,e1,e2 2 _ h2,⟨rs,rfl⟩,_,_,_,_,_,_,_,_,_,_,rfl⟩)
  (xs:=L.map D.int) (ρ:=[some (.frz 4e7),none,none,none,none,none,none,none,none,none]) (Y:=M5)
  ⟨h5,⟨L,rfl⟩,_,_,_,_,_,_,_,_,_,_,rfl⟩
 have hend:∃Y',uf [] (.ok 5e9 M6)=.ok 5e9 Y':=by
  rcases Ey (Y:=[]) (d:=.bl true) (Y':=M6) with e|⟨e,_⟩ <;> exact⟨_,e⟩
 obtain⟨Y',hend⟩:=hend;refine⟨Y',?_⟩;unfold xW;rw[cz];unfold JY;have l1:([.int x0]:List D).length<=sizeLine:=by show 1<=sizeLine;decide
 have sl:∀Y,zq (.frz 4e7) (some 1) (some 5) Y=.ok 0e7 (Y++[.lst 56e7]):=fun Y=>by
  unfold zq;dsimp only;rw[hxs]
 have ad:bG (.obj 0) (.obj 1) ([O.lst [.int x0]]++[O.lst 56e7])=.ok (.obj 2) M5:=by
  have:=sm (Y:=[O.lst [.int x0]]++[O.lst 56e7]) (a:=0) (b:=1) rfl rfl (show ([.int x0]:List D).length+(xs.map D.int).length<=1000000 by rw[Sn];dsimp[Ts,T5];omega);rw[this];dsimp[M5,hL];rfl
 dsimp[List.replicate];rw[aG,g8,cb,aC,df,ar,az,ar,ah,aa,ar,aS,aa,au,aa,aa,aa,ex0,aa,au,aa,aa];dsimp[Rc l1,aa,xI,ah,my,aS,sO];rw[sl,aa];rw[show bG (.obj ([]:aB).length) (.obj (([]:aB)++[O.lst [.int x0]]).length) (([]:aB)++[O.lst [.int x0]]++[O.lst 56e7])=_ from ad];rw[aa,dO h5,af,cD,run3,aD,bf,aS,af,aP];exact hend
end Lw
namespace Lw
open PySem PySem.Spec PyProof.Rows L2 RS
theorem cF(P:Params)(f:Addr)(n m:Str)(t:Tok)(c:Addr)(st:Stmt)(l:(Kz P).lookup f=some (fo n st m t c))(q:W.codeIn (Kz P) (.ref c) n=true):ir (Kz P) n n st f 26e7:=MP l q (by unfold W.keepIn;dsimp only;rw[l];rfl)
theorem Nh{l:W.OpenLaw}{h:Heap}{fa:Addr}(X:(Kz 7e2).In h)(G:h.Ns mainGlobals mg)(hfa:mg "law" = some (.ref fa)):
  ∃fd:FuncData,(∀(s:Shared) (v:Value),BindsTo s fd ⟨[v],[]⟩ [("_law_script",v)])/\∀base:Heap,(Kz 7e2).In base->base.Ns mainGlobals mg->sC 28e5 w (Kz 7e2) mg base zy 14 fa fd ["_law_script"] (Gq (dv (Kz 7e2) w) 1 xW):=by
 have e:=hfa.symm.trans (W.mg_of X G (v:=.ref 374) 0e2);cases e;have nm:Nm mg:=⟨W.mg_none_of X G 0e2,W.mg_none_of X G 0e2,W.mg_none_of X G 0e2,W.mg_none_of X G 0e2,W.mg_none_of X G 0e2,W.mg_none_of X G 0e2,W.mg_none_of X G 0e2,W.mg_none_of X G 0e2,W.mg_none_of X G 0e2,W.mg_none_of X G 0e2,W.mg_none_of X G 0e2,W.mg_none_of X G 0e2,W.mg_none_of X G 0e2,W.mg_none_of X G 0e2,W.mg_none_of X G 0e2,W.mg_none_of X G 0e2⟩;have c_MOST_PLACES:=W.mg_of X G (n:="MOST_PLACES") (v:=(.int 6 404)) 0e2;have c_LEAST_WORDED:=W.mg_of X G (n:="LEAST_WORDED") (v:=(.int 3 464)) 0e2;have F:=cF 7e2 374 "law" "law_rootwebs_k33_trees_and_words" 492 373 k9 0e2 0e2;refine⟨W.fnOf "law" "law" (fH k9) (cW k9) (aw k9) .none .none .none 54e5 none (.ref 373) .none,fun s v=>.of_eq rfl,fun base Xb Gb=>?_⟩;have d_is_whole:=y6 (P:=28e5) (w:=w) (base:=base)  nm (cF 7e2 151 "is_whole" "rootwebs.kinds" 364 150 j9 0e2 0e2) 1e7;have d_is_whole_from:=qP (P:=28e5) (w:=w) (base:=base)  nm (cF 7e2 158 "is_whole_from" "rootwebs.kinds" 364 157 fM 0e2 0e2) 1e7 d_is_whole;have d_is_place:=y8 (P:=28e5) (w:=w) (base:=base)  nm (cF 7e2 165 "is_place" "rootwebs.kinds" 364 164 ka 0e2 0e2) 1e7 d_is_whole_from;have d_is_places:=wR (P:=28e5) (w:=w) (base:=base)  nm (cF 7e2 170 "is_places" "rootwebs.kinds" 364 169 ie 0e2 0e2) 1e7 d_is_place;have d_is_rising:=wQ (P:=28e5) (w:=w) (base:=base)  nm (cF 7e2 175 "is_rising" "rootwebs.kinds" 364 174 ic 0e2 0e2) 1e7;have d_is_many:=Ao (P:=28e5) (w:=w) (base:=base)  nm (cF 7e2 189 "is_many" "rootwebs.webs" 402 188 lq 0e2 0e2) 1e7 ⟨_,c_MOST_PLACES⟩ d_is_whole_from;have d_is_pair:=An (P:=28e5) (w:=w) (base:=base)  nm (cF 7e2 208 "is_pair" "rootwebs.webs" 402 207 lp 0e2 0e2) 1e7 d_is_places;have d_is_tie:=Cz (P:=28e5) (w:=w) (base:=base)  nm (cF 7e2 201 "is_tie" "rootwebs.webs" 402 200 m8 0e2 0e2) 1e7 d_is_pair;have d_is_ties:=Am (P:=28e5) (w:=w) (base:=base)  nm (cF 7e2 194 "is_ties" "rootwebs.webs" 402 193 jR 0e2 0e2) 1e7 d_is_tie d_is_rising;have d_web_good:=y0 (P:=28e5) (w:=w) (base:=base)  nm (cF 7e2 182 "web_good" "rootwebs.webs" 402 181 j8 0e2 0e2) 1e7 d_is_many d_is_ties;have d_web_of:=Cy (P:=28e5) (w:=w) (base:=base)  nm (cF 7e2 213 "web_of" "rootwebs.webs" 402 212 kI 0e2 0e2) 1e7 d_is_many d_is_pair;have d_next_places:=tZ (P:=28e5) (w:=w) (base:=base)  nm (cF 7e2 223 "next_places" "rootwebs.webs" 402 222 d4 0e2 0e2) 1e7;have d_fars_from:=wU (P:=28e5) (w:=w) (base:=base)  nm (cF 7e2 218 "fars_from" "rootwebs.webs" 402 217 ig 0e2 0e2) 1e7 d_next_places;have d_tree_good:=wO (P:=28e5) (w:=w) (base:=base)  nm (cF 7e2 230 "tree_good" "rootwebs.trees" 462 229 jt 0e2 0e2) 1e7 d_web_good d_fars_from;have d_check_tree:=uy (P:=28e5) (w:=w) (base:=base) (a_NoTree:=85) nm (cF 7e2 237 "check_tree" "rootwebs.trees" 462 236 iM 0e2 0e2) 1e7 0e2 1e3 d_tree_good;have d_word_of:=Ak (P:=28e5) (w:=w) (base:=base) (a_NoTree:=85) nm (cF 7e2 242 "word_of" "rootwebs.trees" 462 241 gF 0e2 0e2) 1e7 ⟨_,c_LEAST_WORDED⟩ 0e2 1e3 d_check_tree;have d_tree_by:=Al (P:=28e5) (w:=w) (base:=base) (a_NoNumber:=49) (a_NoTree:=85) nm (cF 7e2 247 "tree_by" "rootwebs.trees" 462 246 jQ 0e2 0e2) 1e7 ⟨_,c_LEAST_WORDED⟩ ⟨_,c_MOST_PLACES⟩ 0e2 (rM.of (nm:="NoNumber") (q:="NoNumber") (N:=48) (bs:=[21e2]) (bm:=[21e2,8e3,13e1,6e8,9e3]) (hd:=true) (sn:=[]) (sub:=[]) (ab:=false) (col:=none) (dd:=none) (k0:=some (.ref 40)) (k1:=none) (k2:=some (.str "NoNumber" 223)) (k3:=some (.str "NoNumber" 231)) (k5:=some 18e0) Xb Gb 0e2 0e2 0e2 0e2 0e2) 0e2 1e3 d_is_whole_from d_is_places d_web_of;have d__law_cell_at:=rV (P:=28e5) (w:=w) (base:=base)  nm (cF 7e2 254 "_law_cell_at" "law_rootwebs_k33_trees_and_words" 492 253 gA 0e2 0e2) 1e7;have d__law_next:=wX (P:=28e5) (w:=w) (base:=base)  nm (cF 7e2 261 "_law_next" "law_rootwebs_k33_trees_and_words" 492 260 jv 0e2 0e2) 1e7;have d__law_pen_of:=t6 (P:=28e5) (w:=w) (base:=base)  nm (cF 7e2 268 "_law_pen_of" "law_rootwebs_k33_trees_and_words" 492 267 il 0e2 0e2) 1e7;have d__law_draw:=wY (P:=28e5) (w:=w) (base:=base)  nm (cF 7e2 275 "_law_draw" "law_rootwebs_k33_trees_and_words" 492 274 jw 0e2 0e2) 1e7 d__law_next;have d__law_whole:=uz (P:=28e5) (w:=w) (base:=base)  nm (cF 7e2 282 "_law_whole" "law_rootwebs_k33_trees_and_words" 492 281 iN 0e2 0e2) 1e7;have d__law_kind_of:=rS (P:=28e5) (w:=w) (base:=base) (a_NoLine:=61) (a_NoNumber:=49) (a_NoPlace:=37) (a_NoRoot:=73) (a_NoText:=123) (a_NoTree:=85) (a_NoWeb:=104) (a_TooGreat:=142) nm (cF 7e2 289 "_law_kind_of" "law_rootwebs_k33_trees_and_words" 492 288 gy 0e2 0e2) 1e7 39e9 39e9 39e9 39e9 39e9 39e9 39e9 39e9 39e9 1e7 1e7 1e7 1e7 1e7 1e7 1e7 1e7;have d__law_named:=uB (P:=28e5) (w:=w) (base:=base)  nm (cF 7e2 294 "_law_named" "law_rootwebs_k33_trees_and_words" 492 293 eS 0e2 0e2) 1e7;have d__law_names_by:=qQ (P:=28e5) (w:=w) (base:=base)  nm (cF 7e2 299 "_law_names_by" "law_rootwebs_k33_trees_and_words" 492 298 d5 0e2 0e2) 1e7 d__law_draw;have d__law_far:=y9 (P:=28e5) (w:=w) (base:=base)  nm (cF 7e2 304 "_law_far" "law_rootwebs_k33_trees_and_words" 492 303 i6 0e2 0e2) 1e7;have d__law_steps:=uA (P:=28e5) (w:=w) (base:=base)  nm (cF 7e2 309 "_law_steps" "law_rootwebs_k33_trees_and_words" 492 308 f7 0e2 0e2) 1e7 d__law_far;have d__law_sparse_by:=pR (P:=28e5) (w:=w) (base:=base)  nm (cF 7e2 314 "_law_sparse_by" "law_rootwebs_k33_trees_and_words" 492 313 bz 0e2 0e2) 1e7 d__law_draw d__law_named d__law_names_by;have d__law_web_by:=t5 (P:=28e5) (w:=w) (base:=base)  nm (cF 7e2 321 "_law_web_by" "law_rootwebs_k33_trees_and_words" 492 320 ik 0e2 0e2) 1e7 d__law_sparse_by d__law_draw d__law_steps;have d__law_tree_by:=rQ (P:=28e5) (w:=w) (base:=base)  nm (cF 7e2 326 "_law_tree_by" "law_rootwebs_k33_trees_and_words" 492 325 eM 0e2 0e2) 1e7 d__law_draw d__law_named d__law_names_by;have d__law_no_tree:=rR (P:=28e5) (w:=w) (base:=base)  nm (cF 7e2 333 "_law_no_tree" "law_rootwebs_k33_trees_and_words" 492 332 gx 0e2 0e2) 1e7 d__law_draw;have d__law_is_tree:=rT (P:=28e5) (w:=w) (base:=base)  nm (cF 7e2 338 "_law_is_tree" "law_rootwebs_k33_trees_and_words" 492 337 eN 0e2 0e2) 1e7 d__law_whole d__law_far;have d__law_word:=wV (P:=28e5) (w:=w) (base:=base)  nm (cF 7e2 343 "_law_word" "law_rootwebs_k33_trees_and_words" 492 342 fJ 0e2 0e2) 1e7;have d__law_told:=wW (P:=28e5) (w:=w) (base:=base) (a_RootError:=24) nm (cF 7e2 350 "_law_told" "law_rootwebs_k33_trees_and_words" 492 349 ju 0e2 0e2) 1e7 1e7 (xU.of 0e2) d_word_of d_tree_by d__law_kind_of;have d__law_word_good:=pQ (P:=28e5) (w:=w) (base:=base)  nm (cF 7e2 355 "_law_word_good" "law_rootwebs_k33_trees_and_words" 492 354 dF 0e2 0e2) 1e7 d__law_whole;have d__law_treed_right:=nu (P:=28e5) (w:=w) (base:=base)  nm (cF 7e2 362 "_law_treed_right" "law_rootwebs_k33_trees_and_words" 492 361 dR 0e2 0e2) 1e7 d__law_told d__law_word_good d__law_is_tree d__law_word;have d__law_bent:=wZ (P:=28e5) (w:=w) (base:=base)  nm (cF 7e2 369 "_law_bent" "law_rootwebs_k33_trees_and_words" 492 368 jx 0e2 0e2) 1e7 d__law_draw;exact MR nm F d__law_cell_at d__law_pen_of d__law_tree_by d__law_web_by d__law_no_tree d_tree_good d__law_is_tree d__law_word d__law_told d__law_draw d__law_bent d__law_treed_right
theorem PQ{l:W.OpenLaw}{q:Program}{d:DefRec}(hn:l.most=some 63)(hdf:d.params.defaults=[])(hd:d.name = "law"):
  W.WalkO q loose XP (W.Hook.says Hz) l.row.toRowW d [] 49e6:=
 L2.walk_of (K:=Kz) (n:=63) (k:=14) (x:="_law_script") (CX:=fun _=>zy) (sp:=fun w=>Gq (dv (Kz 7e2) w) 1 xW) hn 0e4 hdf ⟨rfl,by decide,by decide,rfl⟩ (fun _ _ μ=>W.kIn_of μ) (fun _ _ _ _ X G e=>Nh X G (hd ▸ e)) (fun w H a ns hl hO hS=>FW (K2 ns) hO hS) fun _ _ _ _ _ z=>z
end Lw
open PySem PySem.W PyProof.Rows Lw
set_option maxRecDepth 100000 in
set_option maxHeartbeats 0 in
theorem PySem.Challenge.cw_rootwebs_k33_trees_and_words_holds : PySem.Challenge.rw_rootwebs_k33_trees_and_words.Holds := by
 w_on;refine holds_law Kj fun said=>?_
 exact holds_open (Xt:=Xz) (XP:=XL Qz []) (YP:=Hook.says Hz) Kk (Hook.of Hz) (Hook.keeps Hz) (fun s e=>xl_of s (Bool.and_eq_true_iff.mp e).1) XL.keeps 60e6 60e6 60e6 (fun s e=>recFacts_of (Bool.and_eq_true_iff.mp e).2) 60e6 said 1e0 ⟨rfl,rfl,rfl,rfl,rfl,by decide +kernel⟩ (by w_witness2) (PQ rfl rfl rfl)
