import PyProof.Rows.All
import Wide.All
import OpenK.AllK
import Wide.FinOn
import PyProof.EqAt
import PyProof.EqKinds
import PyProof.TupleCall
import KE.KFromBytes
import KE.KIsAll
import KE.KTryMore
import HandS.ForMost
import HandS.Exc
import HandS.ExcOwn
import HandS.ExcInit
import HandS.ExcIs
import HandS.ExcField
import HandS.Defaults
import HandS.HeadEnd
import HandS.HeadHook1
import HandS.HeadHook2
import HandS.Wide
import HandS.WideBits
import HandS.DictComp
import HandS.Walk
import KE.KDictPairs
import HandS.More
import HandS.IsInst
import HandS.Zip
import HandS.Conv
import PyProof.ListStr
import HandS.Text
import HandS.TupAny
import HandS.Comp
import HandS.TupLen
import HandS.Flow
import HandS.SetBool
import HandS.SetKeys
import KE.DataFind
import HandS.TupMul
import HandS.Style
import KE.KStateDown
import HandS.Head0
import HandS.Head1
import HandS.Head2
import PySem.Challenge.RW_pairtells_k07_whole_pickers_majorities_a
set_option Elab.async false
set_option linter.all false
set_option maxRecDepth 100000
set_option maxHeartbeats 2000000
namespace Yt
open PySem PySem.Spec PyProof.Rows L2
/-! ### promises that know of no guard on the way: repr may be asked -/
section
variable {P : Program} {w : World} {K : PySem.W.Frag} {mg : Str → Option Value} {base : Heap}
structure FnOkG (P : Program) (w : World) (K : PySem.W.Frag) (mg : Str → Option Value) (base : Heap) (CX : CXT) (k : Nat) (f : Addr) (fd : FuncData) (ps : List Str) (sp : Sp) : Prop where
  len : ∀ vs H Q E, sp vs H Q E → vs.length = ps.length
  run : ∀ (A : Around) (outer : List Env) (s : Shared) (H : Hp) (args : Args) (us : List Value) (vs : List V) (Q : VK) (E : XK), A.guards = some [] → Room k A → Env0 P w K mg base A outer s H → BindsTo s fd args (ps.zip us) → Vals vs us → sp vs H Q E →
    codeAny (model P w) A (.call (.ref f) args) (CR CX outer P w H s Q E) s
theorem fn_ofG {CX : CXT} {k : Nat} {f : Addr} {name qual : Str} {params : Arguments} {body : List Stmt} {scope : Scope} {dV kV doc pm cdv ct oc : Value} {an od : Option Addr}
    {osl : Array (Option Value)} {N ps : List Str} {sp : Sp} (lk : K.lookup f = some ⟨oc, od, .func (PySem.W.fnOf name qual params body scope dV kV doc pm an cdv ct), osl⟩) (hcd : PySem.W.codeIn K cdv qual = true) (S : FnScope N ps scope)
    (len : ∀ vs H Q E, sp vs H Q E → vs.length = ps.length)
    (hbody : ∀ (A : Around) (outer : List Env) (s : Shared) (H : Hp) (vs : List V) (Q : VK) (E : XK), (A.deeper (envOfC qual scope s.heap.objs.size f cdv)).guards = some [] → Room k (A.deeper (envOfC qual scope s.heap.objs.size f cdv)) → sp vs H Q E →
      ∃ t, PSs (cxOf CX P w K mg base N qual scope f cdv A outer s H E) body t ∧ t { nx := fun _ H' => Q .non H', rt := Q } (start N vs) H) :
    FnOkG P w K mg base CX (k + 1) f (PySem.W.fnOf name qual params body scope dV kV doc pm an cdv ct) ps sp := by
  refine ⟨len, fun A outer s H args us vs Q E hgd hr e0 hb r hsp => ?_⟩
  have hl := len _ _ _ _ hsp
  have KX : K.In s.heap := e0.mod.kin.keeps fun b o e => (e0.bs b o e).1
  have lim : s.heap.NoLimit := e0.mod.nolimit.keeps fun b o e => (e0.bs b o e).1
  have hkind : ∀ y ∈ ps.zip us, scope.names.lookup y.1 = some .local ∨ (scope.names.lookup y.1 = some .cell ∧ ((cellsFrom (s.heap.objs.size + 1) scope.names []).lookup y.1).isSome = true) := fun ⟨n, v⟩ hy => by
    rcases S.par n (List.of_mem_zip hy).1 with q | q
    · exact .inl q
    · exact .inr ⟨q, PySem.W.cellsFrom_some _ _ _ (.inl q)⟩
  refine codeAny_call_function hr.depth (KX _ _ lk) rfl S.co S.gen rfl (PySem.W.codeRec_of KX hcd) (hb _ _ _ _ ?_)
  refine wpAny_newFunctionEnv_cells S.kind hkind fun env he s1 x => ?_
  subst he
  refine ⟨lim.keeps x.toInCall.keep, codeAny_func ?_⟩
  obtain ⟨t, ht, hq⟩ := hbody A outer s H vs Q E hgd (hr.deeper _) hsp
  have I : Inv (cxOf CX P w K mg base N qual scope f cdv A outer s H E) [] (start N vs) H s1 := inv_start S hr.hd e0 hl r x
  refine wpAny_mono (ht.run [] s1 (start N vs) H _ I hq) (fun fl s' hs => ?_) fun e s' hs => hs
  have fin : ∀ {σ' : L2.St} {H' : Hp} {v : V} {u : Value}, Inv (cxOf CX P w K mg base N qual scope f cdv A outer s H E) [] σ' H' s' → RelV v u → Q v H' → CE outer P w H s Q u s' :=
    fun {σ' H' v u} J rv q => ⟨v, H', J.os, J.bare, J.base, J.hok, rv, q⟩
  cases fl with
  | ret u =>
    obtain ⟨v, σ', H', J, rv, q⟩ := hs
    exact fin J rv q
  | next =>
    obtain ⟨σ', H', J, q⟩ := hs
    exact fin (v := V.non) (u := Value.none) J rfl q
  | brk =>
    obtain ⟨_, _, _, q⟩ := hs
    exact False.elim q
  | cont =>
    obtain ⟨_, _, _, q⟩ := hs
    exact False.elim q
theorem okG {CX : CXT} {x qual : Str} {params : Arguments} {body : List Stmt} {scope : Scope} {dvs : List V} {kws : List (Str × V)} {f : Addr} {fd : FuncData} {N ps : List Str} {k : Nat} {sp : Sp} (F : FunD K x qual params body scope dvs kws f fd) (S : FnScope N ps scope) (len : ∀ vs H Q E, sp vs H Q E → vs.length = ps.length)
    (hbody : ∀ (cdv : Value) (A : Around) (outer : List Env) (s : Shared) (H : Hp) (vs : List V) (Q : VK) (E : XK), (A.deeper (envOfC qual scope s.heap.objs.size f cdv)).guards = some [] → Room k (A.deeper (envOfC qual scope s.heap.objs.size f cdv)) → sp vs H Q E →
      ∃ t, PSs (cxOf CX P w K mg base N qual scope f cdv A outer s H E) body t ∧ t { nx := fun _ H' => Q .non H', rt := Q } (start N vs) H) : FnOkG P w K mg base CX (k + 1) f fd ps sp := by
  obtain ⟨oc, od, dV, kV, doc, pm, an, cdv, ct, osl, rfl, lk, hcd, _, _⟩ := F.ex
  exact fn_ofG lk hcd S len fun A outer s H vs Q E hg hr hsp => hbody cdv A outer s H vs Q E hg hr hsp
end
section
variable {X : Cx} {CX : CXT} {k : Nat} {f C : Addr} {fd : FuncData} {ps : List Str} {sp : Sp} {dvs : List V} {ds : List Value} {E : XK} {x m : Str} {p pos apos : Pos} {e o : Expr} {es : List Expr} {ta : TE} {t : TA}
theorem run_fnG {pins : List (Addr × Obj)} {σ : L2.St} {H : Hp} {s : Shared} {Q : VK} {us : List Value} {vs : List V} (F : FnOkG X.prog X.w X.K X.mg X.base CX k f fd ps sp) (hgd : X.A.guards = some []) (hr : Room k X.A) (hb : Binds X.K fd ps ds) (hd : Vals dvs ds) (hx : Passes CX X E)
    (I : Inv X pins σ H s) (r : Vals vs us) (h : sp (vs ++ dvs) H Q E) : wpAny (model X.prog X.w) X.A (call (.ref f) us) (EP X pins σ Q) X.xe s := by
  have r2 : Vals (vs ++ dvs) (us ++ ds) := r.append hd
  have hl : (us ++ ds).length = ps.length := by rw [← r2.length]; exact F.len _ _ _ _ h
  refine wpAny_call (codeAny_mono (F.run X.A X.stack s H ⟨us, []⟩ (us ++ ds) (vs ++ dvs) Q E hgd hr I.env0 (hb s us I.kIn hl) r2 h) fun r s' hq => ?_)
  cases r with
  | error e => exact hx pins σ H s e s' I hq
  | ok fl =>
    cases fl with
    | ret u => exact I.after hq
    | next => exact False.elim hq
    | brk => exact False.elim hq
    | cont => exact False.elim hq
theorem pe_callG (F : FnOkG X.prog X.w X.K X.mg X.base CX k f fd ps sp) (hgd : X.A.guards = some []) (hr : Room k X.A) (hg : Gl X x) (hm : X.mg x = some (.ref f)) (hk : PySem.W.keepIn X.K (.ref f) = true) (hb : Binds X.K fd ps ds) (hd : Vals dvs ds) (hx : Passes CX X E)
    (ha : PA X (e :: es) t) (hdb : (x == ("__debug__" : Str)) = false := by decide) (he : starEach (e :: es) X.env = (false, eval e X.env) :: starEach es X.env := by rfl) (hpl : (backTo pos (starEach es X.env)).any (·.1) = false := by rfl) :
    PE X (.Call (.Name x p) (e :: es) [] pos) (tCall sp dvs E t) := by
  refine ⟨fun pins s σ H Q I h => ?_⟩
  refine wpAny_Call_Name_kw (ld_glob I hg hm ?_ hdb)
  refine PySem.W.callWith_K (h₀ := X.base) I.ok.mod.kin hk (thn (ha.run pos pins s σ H _ I h) fun us s1 ⟨vs, H1, I1, r, q⟩ => ⟨I1.kIn, ?_⟩) he hpl
  exact run_fnG F hgd hr hb hd hx I1 r q
end
/-! ### powers of great numbers -/
def CPowW (i j : Int) : Prop := 0 ≤ j ∧ (Builtin.Int.intBits i : Int) * j ≤ 2 ^ 27
theorem op_powW {X : Cx} : OpR X (binaryOp .Pow) (rI CPowW fun i j => .int (i ^ j.toNat)) := opI fun _ _ _ _ _ _ _ hc q => pow_int hc.1 hc.2 q
theorem dict_sz1 : ∀ ds : List (PyData × PyData), sizeOf (ds.map (·.1)) < 1 + sizeOf ds
  | [] => by simp
  | (k, v) :: r => by
    have := dict_sz1 r
    simp only [List.map_cons, List.cons.sizeOf_spec, Prod.mk.sizeOf_spec]
    omega
theorem dict_sz2 : ∀ ds : List (PyData × PyData), sizeOf (ds.map (·.2)) < 1 + sizeOf ds
  | [] => by simp
  | (k, v) :: r => by
    have := dict_sz2 r
    simp only [List.map_cons, List.cons.sizeOf_spec, Prod.mk.sizeOf_spec]
    omega
/-! ### data, dicts too: what repr says -/
mutual
inductive Rp (H : Hp) : V → PyData → Prop
  | non : Rp H .non .none
  | bl (b : Bool) : Rp H (.bl b) (.bool b)
  | int (i : Int) : Rp H (.int i) (.int i)
  | str (x : Str) : Rp H (.str x) (.str x)
  | lst {a : Addr} {xs : List V} {ds : List PyData} : Rd H a (.lst xs) → RpAll H xs ds → Rp H (.ref a) (.list ds)
  | tup {a : Addr} {xs : List V} {ds : List PyData} : Rd H a (.tup xs) → RpAll H xs ds → Rp H (.ref a) (.tuple ds)
  | dct {a : Addr} {kvs : List (Key × V)} {ds : List (PyData × PyData)} : H a = some (.dK kvs) → RpAll H (kvs.map fun p => kV p.1) (ds.map (·.1)) → RpAll H (kvs.map (·.2)) (ds.map (·.2)) → Rp H (.ref a) (.dict ds)
inductive RpAll (H : Hp) : List V → List PyData → Prop
  | nil : RpAll H [] []
  | cons {v : V} {vs : List V} {d : PyData} {ds : List PyData} : Rp H v d → RpAll H vs ds → RpAll H (v :: vs) (d :: ds)
end
theorem RpAll.two {H : Hp} {x y : V} {d e : PyData} (h : Rp H x d) (g : Rp H y e) : RpAll H [x, y] [d, e] := .cons h (.cons g .nil)
theorem rd_same {H H' : Hp} {a : Addr} {o : HO} (s : Same H H') (h : Rd H a o) : Rd H' a o := by
  rcases h with h | ⟨u, h⟩
  · exact .inl (s _ _ h)
  · exact .inr ⟨u, s _ _ h⟩
mutual
theorem Rp.same {H H' : Hp} (s : Same H H') : ∀ {v : V} {d : PyData}, Rp H v d → Rp H' v d
  | _, _, .non => .non
  | _, _, .bl b => .bl b
  | _, _, .int i => .int i
  | _, _, .str x => .str x
  | _, _, .lst h g => .lst (rd_same s h) (RpAll.same s g)
  | _, _, .tup h g => .tup (rd_same s h) (RpAll.same s g)
  | _, _, .dct h g k => .dct (s _ _ h) (RpAll.same s g) (RpAll.same s k)
theorem RpAll.same {H H' : Hp} (s : Same H H') : ∀ {v : List V} {d : List PyData}, RpAll H v d → RpAll H' v d
  | _, _, .nil => .nil
  | _, _, .cons h g => .cons (Rp.same s h) (RpAll.same s g)
end
theorem pairs_key {P : Program} {w : World} {kvs : List (Key × V)} {vs : List (Key × Value)} (r : KV kvs vs) : ∀ {es : List DictEntry}, Pairs (mixKind P w) es vs → Vals (kvs.map fun p => kV p.1) (es.map (·.key)) ∧ Vals (kvs.map (·.2)) (es.map (·.val)) := by
  induction r with
  | nil =>
    intro es p
    cases p
    exact ⟨.nil, .nil⟩
  | cons h t ih =>
    intro es p
    cases p with
    | cons hk hv hr =>
      obtain ⟨i1, i2⟩ := ih hr
      obtain ⟨e1, e2⟩ := h
      refine ⟨.cons ?_ i1, .cons ?_ i2⟩
      · dsimp only
        rw [mixKind_is] at hk
        rw [← e1] at hk
        rcases keyIs_shape hk with ⟨i, t, q1, q2⟩ | ⟨x, t, q1, q2⟩
        · rw [q1, q2]
          exact ⟨t, rfl⟩
        · rw [q1, q2]
          exact ⟨t, rfl⟩
      · dsimp only
        rw [hv]
        exact e2
section
variable {X : Cx} {pins : List (Addr × Obj)} {σ : L2.St} {H : Hp} {s : Shared}
theorem not_sys (I : Inv X pins σ H s) (hS : ∃ o, X.K.lookup sysModules = some o) {a : Addr} {o : HO} (h : H a = some o) : a ≠ sysModules := fun z => by
  obtain ⟨u, hu⟩ := hS
  have q := (I.bs _ _ (I.ok.mod.kin _ _ hu)).2
  rw [z, q] at h
  cases h
theorem rd_some {H : Hp} {a : Addr} {o : HO} (h : Rd H a o) : ∃ u, H a = some u := by
  rcases h with h | ⟨u, h⟩
  · exact ⟨_, h⟩
  · exact ⟨_, h⟩
mutual
theorem Rp.reads (I : Inv X pins σ H s) (hS : ∃ o, X.K.lookup sysModules = some o) : ∀ (d : PyData) (v : V) (u : Value), Rp H v d → RelV v u → ∃ as, Reads s.heap u d as ∧ sysModules ∉ as
  | .none, _, _, h, r => by
    cases h
    cases r
    exact ⟨_, Reads.none, fun z => nomatch z⟩
  | .bool b, _, _, h, r => by
    cases h
    cases r
    exact ⟨_, Reads.bool b, fun z => nomatch z⟩
  | .int i, _, _, h, r => by
    cases h
    obtain ⟨t, rfl⟩ := r
    exact ⟨_, Reads.int i t, fun z => nomatch z⟩
  | .str x, _, _, h, r => by
    cases h
    obtain ⟨t, rfl⟩ := r
    exact ⟨_, Reads.str x t, fun z => nomatch z⟩
  | .list ds, _, _, h, r => by
    cases h with
    | lst hs ha =>
      cases r
      obtain ⟨its, rv, ⟨o, n, ho, hc, _, hd⟩, _⟩ := I.list (.inl hs)
      obtain ⟨as, hr, hn⟩ := RpAll.reads I hS ds _ its ha rv
      obtain ⟨_, hz⟩ := rd_some hs
      exact ⟨_, Reads.list ho hc hd hr, fun z => (List.mem_cons.mp z).elim (fun e => not_sys I hS hz e.symm) hn⟩
  | .tuple ds, _, _, h, r => by
    cases h with
    | tup hs ha =>
      cases r
      obtain ⟨its, rv, ⟨o, ho, hc, n, hd⟩, _⟩ := I.tuple (.inl hs)
      obtain ⟨as, hr, hn⟩ := RpAll.reads I hS ds _ its ha rv
      exact ⟨_, Reads.tuple ho hc hd hr, hn⟩
  | .dict ds, _, _, h, r => by
    cases h with
    | dct hs hk hv =>
      cases r
      obtain ⟨_, hsy, vs, rkv, o, es, ep, ho, hx, hd, _, hp, _⟩ := dk_of I.hok hs
      obtain ⟨r1, r2⟩ := pairs_key rkv hp
      obtain ⟨as, h1, n1⟩ := RpAll.reads I hS (ds.map (·.1)) _ _ hk r1
      obtain ⟨bs, h2, n2⟩ := RpAll.reads I hS (ds.map (·.2)) _ _ hv r2
      refine ⟨_, Reads.dict ho hx.1 hd h1 h2, fun z => ?_⟩
      rcases List.mem_append.mp z with z | z
      · rcases List.mem_cons.mp z with z | z
        · exact not_sys I hS hs z.symm
        · exact n1 z
      · exact n2 z
  termination_by d => sizeOf d
  decreasing_by
    all_goals simp_wf
    all_goals first | omega | exact dict_sz1 _ | exact dict_sz2 _
theorem RpAll.reads (I : Inv X pins σ H s) (hS : ∃ o, X.K.lookup sysModules = some o) : ∀ (ds : List PyData) (vs : List V) (us : List Value), RpAll H vs ds → Vals vs us → ∃ as, ReadsAll s.heap us ds as ∧ sysModules ∉ as
  | [], _, _, h, r => by
    cases h
    cases r
    exact ⟨_, ReadsAll.nil, fun z => nomatch z⟩
  | d :: ds, _, _, h, r => by
    cases h with
    | cons h1 h2 =>
      cases r with
      | cons r1 r2 =>
        obtain ⟨as, q1, n1⟩ := Rp.reads I hS d _ _ h1 r1
        obtain ⟨bs, q2, n2⟩ := RpAll.reads I hS ds _ _ h2 r2
        exact ⟨_, ReadsAll.cons q1 q2, fun z => (List.mem_append.mp z).elim n1 n2⟩
  termination_by ds => sizeOf ds
  decreasing_by
    all_goals simp_wf
    all_goals omega
end
end

section
variable {X : Cx}
/-- repr of data -/
def rRepr : List V → Hp → VK → Prop := fun xs H Q => ∃ x d, xs = [x] ∧ Rp H x d ∧ d.showable = true ∧ d.shown.length ≤ sizeLine ∧ d.depth ≤ 60 ∧ Q (.str d.shown) H
theorem call_repr {k : Nat} (hr : Room k X.A) (hgd : X.A.guards = some []) (hS : ∃ o, X.K.lookup sysModules = some o) : CallR X (.builtin "repr") rRepr := by
  intro pins s σ H xs us Q I r h
  obtain ⟨x, d, rfl, hd, hs, hz, hdp, q⟩ := h
  obtain ⟨u, rfl, ru⟩ := vals1 r
  have hu := hr.units
  have done : ∀ h' u tk, (∀ b o, s.heap.get? b = some o → h'.get? b = some o) → EP X pins σ Q (.str d.shown u) { s with heap := h', toks := tk } := fun h' u tk hk => ⟨.str d.shown, H, I.kept hk, ⟨u, rfl⟩, q⟩
  have big : ∀ a, u = .ref a → wpAny (model X.prog X.w) X.A (call (.builtin "repr") [u]) (EP X pins σ Q) X.xe s := fun a e => by
    obtain ⟨as, rd, hn⟩ := Rp.reads I hS d x u hd ru
    subst e
    exact repr_of_reads' rd hs (fun _ => hn) hgd (by omega) (fun _ _ z => z) (fun h' u tk hk => done h' u tk hk) hz
  cases hd with
  | non =>
    obtain rfl : u = Value.none := ru
    have e : (PyData.none).shown = ("None" : Str) := PyData.shown_none
    rw [e] at q
    exact PySem.P.repr_of_none ⟨.str _, H, I.tok _, ⟨_, rfl⟩, q⟩
  | bl b =>
    obtain rfl : u = Value.bool b := ru
    rw [PyData.shown_bool] at q
    exact PySem.P.repr_of_bool ⟨.str _, H, I.tok _, ⟨_, rfl⟩, q⟩
  | int i =>
    obtain ⟨t, rfl⟩ := ru
    rw [PyData.shown_int] at q
    exact PySem.P.repr_of_int (by simpa [PyData.showable] using hs) ⟨.str _, H, I.tok _, ⟨_, rfl⟩, q⟩
  | str y =>
    obtain ⟨t, rfl⟩ := ru
    rw [PyData.shown_str] at q hz
    exact PySem.P.repr_of_str ⟨.str _, H, I.tok _, ⟨_, rfl⟩, q⟩ hz
  | lst _ _ => exact big _ ru
  | tup _ _ => exact big _ ru
  | dct _ _ _ => exact big _ ru
end
end Yt

set_option Elab.async false
set_option linter.all false
set_option maxRecDepth 100000
set_option maxHeartbeats 2000000
namespace PySem
namespace YtE
open PySem PySem.W PySem.Calls PyProof.Rows PySem.HandSPX
/-! ### type.__call__ on an own exception class with keywords: the keywords go to __init__ alone -/
section
variable {M : Model} {A : Around} {E : Value → Shared → Prop} {h : Heap} {g : Array GenState} {d : Drawn} {t : Nat} {os : OsState}
variable {nm q : Str} {C N : Addr} {bs bm bmB : List Value} {hdct : Bool} {sn : List Str} {sub : List Value} {ab : Bool} {col : Option Bool} {dd : Option Addr} {k0 k1 k2 k3 k5 : Option Value} {B newId initId : String}
theorem check_new_ownK (F : ExcBaseFacts B newId initId bmB) (hT : ∀ X : String, bm.contains (.type X) = bmB.contains (.type X)) {rest : List Value} {kw : List (Str × Value)} {Q : Unit → Shared → Prop}
    (hC : h.get? C = some (excClassObj nm q C N bs bm hdct sn sub ab col dd k0 k1 k2 k3 k5 newId)) (hq : Q () ⟨h, g, d, t, os⟩) : wpAny M A (checkBuiltinCall newId ⟨.ref C :: rest, kw⟩) Q E ⟨h, g, d, t, os⟩ := by
  have hcont : (Value.ref C :: bm).contains (.type B) = true := by rw [List.contains_cons, hT, F.hasB, Bool.or_true]
  have hstar := F.noStar
  simp only [checkBuiltinCall, F.newKind, F.newSplit, F.newRow]
  repeat (first | refine wpAny_loadPart_at hC ?_ | (refine wpAny_isSubtype_exc hC ?_; rw [hcont]) | refine wpAny_staticBase_exc hC ?_ | refine wpAny_madeBy_exc hC ?_ | simp only [bne_self_eq_false, Bool.false_eq_true, if_false] | wp_step)
  exact hq
end
section
variable {prog : Program} {w : World} {A : Around} {E : Value → Shared → Prop} {R : Result → Shared → Prop} {h : Heap} {g : Array GenState} {d : Drawn} {t : Nat} {os : OsState}
variable {nm q : Str} {C N : Addr} {bs bm bmB : List Value} {hdct : Bool} {sn : List Str} {sub : List Value} {ab : Bool} {col : Option Bool} {dd : Option Addr} {k0 k1 k2 k3 k5 : Option Value} {B newId initId : String}
theorem new_ownK (F : ExcBaseFacts B newId initId bmB) (hT : ∀ X : String, bm.contains (.type X) = bmB.contains (.type X)) {rest : List Value} {kw : List (Str × Value)}
    (hC : h.get? C = some (excClassObj nm q C N bs bm hdct sn sub ab col dd k0 k1 k2 k3 k5 newId))
    (hq : R (.ok (.ret (.ref (h.objs.size + 1)))) ⟨(h.push { cls := .type "tuple", data := .seq rest.toArray }).push
      { cls := .ref C, data := .fields #[.ref h.objs.size, .none, .none, .none, .bool false, .none] }, g, d, t, os⟩) (hrest : rest.length ≤ sizeLine) :
    codeAny (model prog w) A (.builtin newId ⟨.ref C :: rest, kw⟩) R ⟨h, g, d, t, os⟩ := by
  have hends := F.ends
  have hcB : (Value.ref C :: bm).contains (.type B) = true := by rw [List.contains_cons, hT, F.hasB, Bool.or_true]
  have hcA : (Value.ref C :: bm).contains (.type "AttributeError") = false := by rw [List.contains_cons, hT, F.noAttr]; rfl
  have hcN : (Value.ref C :: bm).contains (.type "NameError") = false := by rw [List.contains_cons, hT, F.noName]; rfl
  refine codeAny_builtinAt F.entry ?_
  unfold Builtin.«BaseException.__new__»
  refine PySem.wpAt_bind ?_
  show PySem.wpAt _ _ _ (stack >>= _) _ _ _
  refine PySem.wpAt_bind (PySem.wpAt_stack fun p below => PySem.wpAt_of_wpAny ?_)
  wp_walk
  refine PySem.wpAt_of_wpAny ?_
  rw [F.owner]
  repeat (first | with_reducible refine wpAny_madeHere_exc F.canon hC ?_ | with_reducible refine wpAny_loadPart_at hC ?_ | (with_reducible refine wpAny_isSubtype_exc hC ?_; first | rw [hcB] | rw [hcA] | rw [hcN]) | wp_step)
  show R _ _
  rw [Heap.size_push]
  exact hq
theorem type_call_ownK (F : ExcBaseFacts B newId initId bmB) (hT : ∀ X : String, bm.contains (.type X) = bmB.contains (.type X)) {rest : List Value} {kw : List (Str × Value)} {fI : Addr} {Q : Fin → Shared → Prop}
    (hC : h.get? C = some (excClassObj nm q C N bs bm hdct sn sub ab col dd k0 k1 k2 k3 k5 newId))
    (hi : W.Looks (model prog w) h (typeLookup (.ref C) "__init__") (some (.ref fI))) (hb : ∀ self, W.Looks (model prog w) h (bindSpecial (.ref fI) self) (.ref fI, [self])) (hrest : rest.length ≤ sizeLine)
    (hq : codeAny (model prog w) A (.call (.ref fI) ⟨.ref (h.objs.size + 1) :: rest, kw⟩)
      (fun r s' => match r with | .ok (.ret v) => v = .none ∧ Q (.done (.ret (.ref (h.objs.size + 1)))) s' | .ok _ => False | .error e => E e s')
      ⟨(h.push (W.kdv_tup rest)).push (HandSPX.excO C h.objs.size), g, d, t, os⟩) :
    wpAny (model prog w) A (Builtin.«type.__call__» ⟨.ref C :: rest, kw⟩) Q E ⟨h, g, d, t, os⟩ := by
  repeat (first | with_reducible refine wpAny_loadPart_at hC ?_ | with_reducible refine wpAny_madeBy_exc hC ?_ | wp_step)
  refine codeAny_call_builtin_code (Code.quiet_builtin _ F.quiet) (check_new_ownK F hT hC ?_)
  refine new_ownK F hT hC ?_ hrest
  show wpAny _ _ _ _ _ _
  have k : ∀ b o, h.get? b = some o → ((h.push (W.kdv_tup rest)).push (HandSPX.excO C h.objs.size)).get? b = some o := fun b o e => Heap.get?_push_of_some _ (Heap.get?_push_of_some _ e)
  have hC₁ := k _ _ hC
  have hget : ((h.push (W.kdv_tup rest)).push (HandSPX.excO C h.objs.size)).get? (h.objs.size + 1) = some (HandSPX.excO C h.objs.size) := by heap_get
  have hcC : (Value.ref C :: bm).contains (.ref C) = true := by simp
  have i1 := hi.keeps k
  have b1 := (hb (.ref (h.objs.size + 1))).keeps k
  unfold isInstance
  repeat (first | with_reducible refine wpAny_loadPart_at hget ?_ | (with_reducible refine wpAny_isSubtype_exc hC₁ ?_; rw [hcC]) | wp_step)
  show wpAny _ _ (typeLookup (.ref C) _) _ _ _
  refine i1.at ?_
  refine wpAny_holding (wpAny_bind (b1.at ?_))
  refine wpAny_bind (wpAny_call (codeAny_mono hq fun r s' z => ?_))
  rcases r with e | (v | _ | _ | _) <;> first | exact z | exact z.elim | skip
  obtain ⟨rfl, z⟩ := z
  first
    | exact wpAny_pure (wpAny_pure z)
    | (wp_walk; exact z)
theorem call_ownK (F : ExcBaseFacts B newId initId bmB) (hT : ∀ X : String, bm.contains (.type X) = bmB.contains (.type X)) {rest : List Value} {kw : List (Str × Value)} {fI : Addr}
    (hC : h.get? C = some (excClassObj nm q C N bs bm hdct sn sub ab col dd k0 k1 k2 k3 k5 newId))
    (hi : W.Looks (model prog w) h (typeLookup (.ref C) "__init__") (some (.ref fI))) (hb : ∀ self, W.Looks (model prog w) h (bindSpecial (.ref fI) self) (.ref fI, [self])) (hrest : rest.length ≤ sizeLine)
    (hq : codeAny (model prog w) (A.under (.builtin "type.__call__" ⟨.ref C :: rest, kw⟩)) (.call (.ref fI) ⟨.ref (h.objs.size + 1) :: rest, kw⟩) (W.InitBack (h.objs.size + 1) R)
      ⟨(h.push (W.kdv_tup rest)).push (HandSPX.excO C h.objs.size), g, d, t, os⟩) :
    codeAny (model prog w) A (.call (.ref C) ⟨rest, kw⟩) R ⟨h, g, d, t, os⟩ := by
  have f1 := tc_lookup
  have f2 := tc_bind (.ref C)
  have hTy : (⟨h, g, d, t, os⟩ : Shared).TypeIs (.ref C) "type" := ⟨_, hC, rfl⟩
  refine codeAny_of_tree ?_
  show wpAny _ _ (callAny (.ref C) _) _ _ _
  repeat (any_goals (first | assumption | with_reducible refine wpAny_loadPart_at hC ?_ | wp_step))
  refine ⟨rfl, ?_⟩
  refine codeAny_call_builtin_at (Code.quiet_builtin _ (by decide +kernel)) entry_typeCall (wpAny_check_type_call_sub hC (type_call_ownK F hT hC hi hb hrest ?_))
  refine codeAny_mono hq fun r s' z => ?_
  rcases r with e | (v | _ | _ | _) <;> exact z
end
end YtE
end PySem

set_option Elab.async false
set_option linter.all false
set_option maxRecDepth 100000
set_option maxHeartbeats 2000000
namespace Yt
open PySem PySem.Spec PyProof.Rows L2
/-- at e an error of the class at C, its field value holds v -/
def ErrAt (H : Hp) (e C : Addr) (v : V) : Prop := ∃ d, H e = some (exo e C (some d)) ∧ H d = some (exd d [(("value" : Str), v)])
theorem ErrAt.same {H H' : Hp} {e C : Addr} {v : V} (s : Same H H') (h : ErrAt H e C v) : ErrAt H' e C v := by
  obtain ⟨d, h1, h2⟩ := h
  exact ⟨d, s _ _ h1, s _ _ h2⟩
/-- what the written part says of such a class, its __init__ at fI -/
structure ErrC (K : PySem.W.Frag) (C fI : Addr) : Prop where
  oex : OexC K C
  iC : PySem.W.findIn K (.ref C) "__init__" = some (some (.ref fI))
  tI : PySem.W.typeIn K (.ref fI) = some (.type "function")
  no : PySem.W.findIn K (.ref C) "value" = some none
  ec : ExcC K C
/-- __init__(self, value): self.value = value -/
def spErr (K : PySem.W.Frag) : Sp := fun vs H Q _ => ∃ (a C : Addr) (v : V), vs = [.ref a, v] ∧ H a = some (exo a C none) ∧ OexC K C ∧ PySem.W.findIn K (.ref C) "value" = some none ∧
  ∀ dx, H dx = none → dx ≠ a → Q .non (upd (upd H dx (exd dx [(("value" : Str), v)])) a (exo a C (some dx)))
section
variable {X : Cx} {pins : List (Addr × Obj)} {σ : L2.St} {H : Hp} {s : Shared} {C fI : Addr} {fd : FuncData} {k : Nat}
theorem run_err {Q : VK} {us : List Value} {kw : List (Str × Value)} {v : V} {v' : Value} (T : ErrC X.K C fI) (F1 : FnOk X.prog X.w X.K X.mg X.base CX0 k fI fd ["self", "value"] (spErr X.K)) (hr : Room (k + 1) X.A) (I : Inv X pins σ H s) (rv : RelV v v') (hus : us.length ≤ sizeLine)
    (hb : ∀ (s : Shared) (self : Value), X.K.In s.heap → BindsTo s fd ⟨self :: us, kw⟩ ((["self", "value"] : List Str).zip [self, v']))
    (q : ∀ e H2, H e = none → Same H H2 → ErrAt H2 e C v → Q (.ref e) H2) :
    wpAny (model X.prog X.w) X.A (call (.ref C) us kw) (EP X pins σ Q) X.xe s := by
  obtain ⟨nm, qn, N, bs, bm, sn, sub, ab, col, dd, k0, k1, k2, k3, k5, hC, hbm⟩ := T.oex.cls
  obtain ⟨hp, g, dr, tk, os⟩ := s
  have hsz : hp.objs.size ≤ hp.objs.size + 1 := Nat.le_succ _
  have hn : H (hp.objs.size + 1) = none := I.hok.fresh hsz
  have kk : ∀ b o, hp.get? b = some o → ((hp.push (PySem.W.kdv_tup us)).push (PySem.HandSPX.excO C hp.objs.size)).get? b = some o := fun b o e => Heap.get?_push_of_some _ (Heap.get?_push_of_some _ e)
  have hget : ((hp.push (PySem.W.kdv_tup us)).push (PySem.HandSPX.excO C hp.objs.size)).get? (hp.objs.size + 1) = some (PySem.HandSPX.excO C hp.objs.size) := by heap_get
  have I2 : Inv X pins σ (upd H (hp.objs.size + 1) (exo (hp.objs.size + 1) C none)) ⟨(hp.push (PySem.W.kdv_tup us)).push (PySem.HandSPX.excO C hp.objs.size), g, dr, tk, os⟩ :=
    I.laid (t' := tk) (a := hp.objs.size + 1) (o := exo (hp.objs.size + 1) C none) (h' := (hp.push (PySem.W.kdv_tup us)).push (PySem.HandSPX.excO C hp.objs.size)) kk hsz (exo_ok hget)
  have r2 : Vals [V.ref (hp.objs.size + 1), v] [Value.ref (hp.objs.size + 1), v'] := .cons rfl (.cons rv .nil)
  have hq : spErr X.K [V.ref (hp.objs.size + 1), v] (upd H (hp.objs.size + 1) (exo (hp.objs.size + 1) C none))
      (fun u H2 => u = .non ∧ Q (.ref (hp.objs.size + 1)) H2) (fun _ _ _ => False) := by
    refine ⟨_, C, v, rfl, upd_same, T.oex, T.no, fun dx hd ne => ⟨rfl, ?_⟩⟩
    have hd' : H dx = none := by
      rw [upd_ne ne] at hd
      exact hd
    refine q _ _ hn (fun b o z => ?_) ⟨dx, upd_same, ?_⟩
    · rw [upd_ne (ne_of_none z hn), upd_ne (ne_of_none z hd'), upd_ne (ne_of_none z hn)]
      exact z
    · rw [upd_ne ne, upd_same]
  refine wpAny_call (PySem.YtE.call_ownK F.excBase_ValueError (fun Y => PySem.HandSPX.refsVE_contains Y bm hbm) (I.kIn _ _ hC) (PySem.W.looks_findIn I.kIn T.iC) (fun self => PySem.W.bind_fn I.kIn self T.tI) hus
    (codeAny_mono (F1.run _ X.stack _ _ ⟨Value.ref (hp.objs.size + 1) :: us, kw⟩ [Value.ref (hp.objs.size + 1), v'] _ _ (fun _ _ _ => False) (hr.make C us kw) (I2.env0.make C us kw) (hb _ _ I2.kIn) r2 hq) fun r s' hq' => ?_))
  cases r with
  | error er => exact pass0 (X := X) pins σ _ _ er s' I2 hq'
  | ok fl =>
    cases fl with
    | ret u =>
      obtain ⟨w, H', I3, rw', ew, q3⟩ := I2.after hq'
      subst ew
      exact ⟨rw', ⟨V.ref (hp.objs.size + 1), H', I3, rfl, q3⟩⟩
    | next => exact False.elim hq'
    | brk => exact False.elim hq'
    | cont => exact False.elim hq'
end
/-- C(e) as a value -/
def tErr (C : Addr) (te : TE) : TE := fun σ H Q => te σ H fun v H1 => ∀ e H2, H1 e = none → Same H1 H2 → ErrAt H2 e C v → Q (.ref e) H2
/-- C() -/
def tErr0 (C : Addr) : TE := fun _ H Q => ∀ e H2, H e = none → Same H H2 → ErrAt H2 e C .non → Q (.ref e) H2
section
variable {X : Cx} {C fI : Addr} {fd : FuncData} {k : Nat} {x : Str} {p pos kpos : Pos} {e : Expr} {te : TE} {ds : List Value}
/-- how the class's __init__ binds: given, by name, left out -/
structure ErrB (K : PySem.W.Frag) (fd : FuncData) : Prop where
  pos : ∀ (s : Shared) (self u : Value), K.In s.heap → BindsTo s fd ⟨[self, u], []⟩ ((["self", "value"] : List Str).zip [self, u])
  kwd : ∀ (s : Shared) (self u : Value), K.In s.heap → BindsTo s fd ⟨[self], [("value", u)]⟩ ((["self", "value"] : List Str).zip [self, u])
  out : ∀ (s : Shared) (self : Value), K.In s.heap → BindsTo s fd ⟨[self], []⟩ ((["self", "value"] : List Str).zip [self, .none])
theorem pe_err (T : ErrC X.K C fI) (F1 : FnOk X.prog X.w X.K X.mg X.base CX0 k fI fd ["self", "value"] (spErr X.K)) (hr : Room (k + 1) X.A) (hb : ErrB X.K fd) (hg : Gl X x) (hm : X.mg x = some (.ref C)) (he : PE X e te)
    (hs : starEach [e] X.env = (false, eval e X.env) :: starEach [] X.env := by rfl) (hdb : (x == ("__debug__" : Str)) = false := by decide) :
    PE X (.Call (.Name x p) [e] [] pos) (tErr C te) := by
  refine ⟨fun pins s σ H Q I h => ?_⟩
  refine wpAny_Call_Name_kw (ld_glob I hg hm ?_ hdb)
  refine PySem.W.callWith_K (h₀ := X.base) I.ok.mod.kin T.oex.kC ?_ hs (by rfl)
  rw [hs]
  show wpAny _ _ (spliced ((false, eval e X.env) :: backTo pos (starEach [] X.env))) _ _ s
  refine Calls.spliced_cons (thn (he.run pins s σ H _ I h) fun u s1 ⟨v, H1, I1, r1, q1⟩ => ?_)
  refine Calls.spliced_nil ⟨I1.kIn, ?_⟩
  show wpAny _ _ (call (.ref C) [u]) _ _ _
  exact run_err T F1 hr I1 r1 (by show 1 ≤ sizeLine; rw [sizeLine_eq]; omega) (fun s self X => hb.pos s self u X) q1
theorem pe_err0 (T : ErrC X.K C fI) (F1 : FnOk X.prog X.w X.K X.mg X.base CX0 k fI fd ["self", "value"] (spErr X.K)) (hr : Room (k + 1) X.A) (hb : ErrB X.K fd) (hg : Gl X x) (hm : X.mg x = some (.ref C))
    (hdb : (x == ("__debug__" : Str)) = false := by decide) : PE X (.Call (.Name x p) [] [] pos) (tErr0 C) := by
  refine ⟨fun pins s σ H Q I h => ?_⟩
  refine wpAny_Call_Name_kw (ld_glob I hg hm ?_ hdb)
  exact PySem.W.callWith_K0 I.kIn T.oex.kC (run_err (us := []) (v := .non) (v' := .none) T F1 hr I rfl (by show 0 ≤ sizeLine; omega) (fun s self X => hb.out s self X) h)
theorem pe_errK (T : ErrC X.K C fI) (F1 : FnOk X.prog X.w X.K X.mg X.base CX0 k fI fd ["self", "value"] (spErr X.K)) (hr : Room (k + 1) X.A) (hb : ErrB X.K fd) (hg : Gl X x) (hm : X.mg x = some (.ref C)) (he : PE X e te)
    (hdb : (x == ("__debug__" : Str)) = false := by decide) : PE X (.Call (.Name x p) [] [⟨some "value", e, kpos⟩] pos) (tErr C te) := by
  refine ⟨fun pins s σ H Q I h => ?_⟩
  refine wpAny_Call_Name_kw (ld_glob I hg hm ?_ hdb)
  refine PySem.W.callWith_KW0 (h₀ := X.base) I.ok.mod.kin T.oex.kC (by rfl) ?_ (by rfl)
  show wpAny _ _ (evalAll ((do let v ← eval e X.env; standAt pos; pure v) :: [])) _ _ s
  refine wpAny_evalAll_cons (wpAny_bind (thn (he.run pins s σ H _ I h) fun u s1 ⟨v, H1, I1, r1, q1⟩ => wpAny_bind (wpAny_standAt (wpAny_pure ?_))))
  refine wpAny_evalAll_nil ⟨I1.kIn, ?_⟩
  show wpAny _ _ (call (.ref C) [] [("value", u)]) _ _ _
  exact run_err T F1 hr I1 r1 (by show 0 ≤ sizeLine; omega) (fun s self X => hb.kwd s self u X) q1
end
/-- e.value -/
def tVal (K : PySem.W.Frag) (te : TE) : TE := fun σ H Q => te σ H fun x H1 => ∃ (a C fI : Addr) (v : V), x = .ref a ∧ ErrC K C fI ∧ ErrAt H1 a C v ∧ Q v H1
theorem pe_val {X : Cx} {e : Expr} {te : TE} {pos : Pos} (he : PE X e te) (hb : attributeBase e "value" X.env (eval e X.env) = eval e X.env := by rfl) : PE X (.Attribute e "value" pos) (tVal X.K te) := by
  refine ⟨fun pins s σ H Q I h => ?_⟩
  refine attr_of hb (thn (he.run pins s σ H _ I h) fun u s1 hh => ?_)
  obtain ⟨x, H1, I1, rx, a, C, fI, v, ex, T, ⟨dd, ea, ed⟩, q⟩ := hh
  subst ex
  obtain rfl : u = Value.ref a := rx
  obtain ⟨t1, ha⟩ := exo_at I1.hok ea
  obtain ⟨mA, hns, hr⟩ := exd_at I1.hok ed
  obtain ⟨od, ho, hl⟩ := lookIn_ns hns
  obtain ⟨u, hu, ru⟩ := RelO.some_of (v := v) (o := mA "value") (by
    have z := hr "value"
    have e : List.lookup ("value" : Str) [(("value" : Str), v)] = some v := by simp [List.lookup]
    rw [e] at z
    exact z)
  have J : PySem.W.InstAt s1.heap a _ C (some od) := ⟨ha, rfl, rfl, ho⟩
  exact HandSPX.exc_get I1.kIn J T.ec.hg T.ec.hk T.ec.hs (PySem.W.findObj_own T.ec.hd T.no rfl (by rw [hl, hu])) (handed_of ru) ⟨v, H1, I1.tok _, ru, q⟩
end Yt

set_option Elab.async false
set_option linter.all false
set_option maxRecDepth 100000
set_option maxHeartbeats 4000000
namespace PySem.YtE
open PySem PySem.Spec PySem.Calls PyProof.Rows PySem.W
section
variable {prog : Program} {w : World} {A : Around} {E : Value → Shared → Prop} {s : Shared} {K : Frag} {x D : Addr} {ox : Obj} {od : Option Obj}
theorem findData {C : Addr} {name : Str} {a g : Value} (hc : (clsIn K C).isSome = true) (ha : findIn K (.ref C) name = some (some a)) (hg : specialIn K a "__get__" = some (some g)) (ht : takesIn K a = some true) : findObj K C od name = some (.bind g a) := by
  obtain ⟨cd, hc⟩ := Option.isSome_iff_exists.mp hc
  unfold findObj
  rw [hc, Option.bind_some, ha, Option.bind_some]
  simp [hg, ht]
theorem class_of {Q : Option Value → Shared → Prop} (T : L2.ExcC K D) (X : K.In s.heap) (I : InstAt s.heap x ox D od) (h : Q (some (.ref D)) { s with toks := s.toks + 1 }) : wpAny (model prog w) A (getAttr? (.ref x) "__class__") Q E s := by
  have hf : findObj K D od "__class__" = some (.bind (.builtin "getset_descriptor.__get__") (.builtin "object.__class__")) := findData (by obtain ⟨cd, hc, _⟩ := any_some T.hd; rw [hc]; rfl) T.ha T.hn T.ht
  obtain ⟨hp, g, d, t, os⟩ := s
  have L0 := I.type (M := model prog w)
  have L1 := looks_findIn (M := model prog w) X T.hg
  have L2 := looks_findIn (M := model prog w) X T.hk
  have L3 := looks_find (M := model prog w) X I hf
  have sub : Looks (model prog w) hp (isInstance (.ref x) (.type "BaseException")) true := L0.andThen (looks_subIn X T.hs)
  have hx0 : (false && onTheHeap (Value.builtin "BaseException.__getattribute__")) = false := rfl
  have hx2 : (Value.builtin "BaseException.__getattribute__" == Value.builtin "object.__getattribute__") = false := by decide +kernel
  have hx1 : (onTheHeap (Value.ref D) && Value.builtin "BaseException.__getattribute__" == Value.builtin "object.__getattribute__") = false := by rw [hx2]; rfl
  unfold getAttr? getAttrBy? getAttrBy
  refine wpAny_bind (wpAny_mkText (wpAny_bind (wpAny_attempt (wpAny_holding (wpAny_bind (L0.at (wpAny_bind (L1.at ?_))))))))
  show wpAny _ _ (if (onTheHeap (Value.ref D) && Value.builtin "BaseException.__getattribute__" == Value.builtin "object.__getattribute__") = true then _ else _) _ _ _
  rw [hx1, if_neg Bool.false_ne_true]
  unfold getAttrByItsOwn hookBefore
  refine wpAny_bind ?_
  rw [if_pos (show onTheHeap (Value.ref D) = true from rfl)]
  refine L2.at ?_
  refine wpAny_bind (wpAny_attempt (wpAny_holding ?_))
  unfold callGetattribute
  rw [hx0, if_neg Bool.false_ne_true]
  unfold boundAndCalled
  rw [PySem.F.excAttr_ValueError.ga.bind (.ref x)]
  refine wpAny_bind (wpAny_pure ?_)
  show wpAny _ _ (call (.builtin "BaseException.__getattribute__") [.ref x, .str "__class__" t]) _ _ _
  refine wpAny_call (codeAny_call_builtin PySem.F.excAttr_ValueError.ga.plain PySem.F.entry_bexc_ga ?_)
  refine @check_slot (model prog w) _ _ ⟨hp, g, d, t + 1, os⟩ "BaseException.__getattribute__" "BaseException" "__getattribute__" (.ref x) [.str "__class__" t] [] _ (by decide +kernel) (by decide +kernel) sub (PySem.F.args_bexc_ga (.ref x) (.str "__class__" t)) ?_
  unfold Builtin.«object.__getattribute__»
  refine wpAny_bind (wpAny_of_eq (a := ((Value.ref x : Value), [Value.str "__class__" t])) (by first | rfl | (simp only [slotArgs]; rfl)) ?_)
  refine wpAny_bind (wpAny_pure (wpAny_bind (L0.at (wpAny_bind (L3.at ?_)))))
  show wpAny _ _ (holding [Value.builtin "object.__class__"] (call (.builtin "getset_descriptor.__get__") [.builtin "object.__class__", .ref x, .ref D]) >>= ret) _ _ _
  refine wpAny_bind (wpAny_holding (wpAny_call (class_get (s := ⟨hp, g, d, t + 1, os⟩) (ox := ox) (od := od) X I T.hm ?_)))
  refine wpAny_pure ?_
  show wpAny _ _ (handedOut (.ref D)) _ _ _
  rw [handedOut_of (v := .ref D) rfl]
  first
    | exact wpAny_pure (wpAny_pure h)
    | exact wpAny_pure h
    | exact wpAny_pure (wpAny_bind (wpAny_pure (wpAny_pure h)))
theorem kit_err (T : L2.ExcC K D) : KitX K (.ref x) (.ref D) (fun h => ∃ ox od, InstAt h x ox D od) where
  ty := fun _ _ _ ⟨_, _, I⟩ => I.type
  it := fun _ _ X _ => by
    obtain ⟨cdD, hcD, _⟩ := any_some T.hd
    unfold clsIn at hcD
    split at hcD
    · rename_i c' d' cd' sl' ho
      intro A' Q' E' s' k q
      unfold isType loadHead
      exact wpAny_bind (wpAny_loadPart (k _ _ (X _ _ ho)) (wpAny_pure q))
    · cases hcD
  ne := fun h tp dd its n sl X htp => by
    obtain ⟨cdD, hcD, _⟩ := any_some T.hd
    refine Bool.eq_false_iff.mpr fun q => ?_
    have e : D = tp := Value.ref.inj (beq_iff_eq.mp q)
    subst e
    unfold clsIn at hcD
    split at hcD
    · rename_i c' d' cd' sl' ho
      have z := (X _ _ ho).symm.trans htp
      cases z
    · cases hcD
  ca := fun X ⟨_, _, I⟩ k => class_of T X I k
end
end PySem.YtE
namespace Yt
open PySem PySem.Spec PyProof.Rows L2
/-- at a an instance of the error class at C: with its field or without one -/
def ErrIs (H : Hp) (a C : Addr) : Prop := (∃ v, ErrAt H a C v) ∨ H a = some (exo a C none)
theorem ErrAt.is {H : Hp} {a C : Addr} {v : V} (h : ErrAt H a C v) : ErrIs H a C := .inl ⟨v, h⟩
theorem ErrIs.inst {X : Cx} {pins : List (Addr × Obj)} {σ : L2.St} {H : Hp} {s : Shared} {a C : Addr} (I : Inv X pins σ H s) (h : ErrIs H a C) : ∃ ox od, PySem.W.InstAt s.heap a ox C od := by
  rcases h with ⟨v, dd, ea, ed⟩ | ea
  · obtain ⟨t1, ha⟩ := exo_at I.hok ea
    obtain ⟨mA, hns, hr⟩ := exd_at I.hok ed
    obtain ⟨od, ho, hl⟩ := lookIn_ns hns
    exact ⟨_, some od, ha, rfl, rfl, ho⟩
  · obtain ⟨t1, ha⟩ := exo_at I.hok ea
    exact ⟨_, none, ha, rfl, rfl, trivial⟩
/-- isinstance(e, c), e an error of an own class -/
def rIsI (K : PySem.W.Frag) : List V → Hp → VK → Prop := fun xs H Q => ∃ (a D : Addr) (c : V) (cv : Value) (b : Bool), xs = [.ref a, c] ∧ ErrIs H a D ∧ ExcC K D ∧ (∀ u, RelV c u → u = cv) ∧ PySem.W.kitOne K (.ref D) cv = some b ∧ Q (.bl b) H
theorem call_isErr {X : Cx} : CallR X (.builtin "isinstance") (rIsI X.K) := by
  intro pins s σ H xs us Q I r h
  obtain ⟨a, D, c, cv, b, rfl, hE, C, hcv, e, q⟩ := h
  obtain ⟨u, w, rfl, ru, rw'⟩ := vals2 r
  obtain rfl : u = Value.ref a := ru
  have ec := hcv _ rw'
  subst ec
  exact PySem.W.kia_one (PySem.YtE.kit_err C) I.kIn (hE.inst I) e (fun z => nomatch z) fun tk => ⟨.bl b, H, I.kept (t' := tk) fun _ _ z => z, rfl, q⟩
end Yt

set_option Elab.async false
set_option linter.all false
set_option maxRecDepth 100000
set_option maxHeartbeats 2000000
namespace Yt
open PySem PySem.Spec PyProof.Rows L2
def top (i : Nat) : Stmt := PySem.Challenge.pw_pairtells_k07_whole_pickers_majorities_a.main.body.getD i (.Pass ⟨0, 0, 0, 0⟩)
abbrev sPurse : Stmt := top 36
abbrev sMixed : Stmt := top 37
abbrev sDraw : Stmt := top 38
abbrev sPurses : Stmt := top 39
abbrev sOne : Stmt := top 40
abbrev sWord : Stmt := top 43
abbrev FnP (K : PySem.W.Frag) (x : Str) (st : Stmt) (f : Addr) (fd : FuncData) : Prop := FunD K x x (defArgs st) (defBody st) (defScope st) [] [] f fd
/-- the names that the module leaves to Python -/
structure Nm (mg : Str → Option Value) : Prop where
  int : mg "int" = none
  sum : mg "sum" = none
  max : mg "max" = none
  min : mg "min" = none
  range : mg "range" = none
  len : mg "len" = none
/-- the law's purse at p: it may be drawn from f times more -/
def PurseAt (H : Hp) (p : Addr) (f : Nat) : Prop := ∃ x y c t : Int, H p = some (.lst [.int x, .int y, .int c, .int t]) ∧ 0 ≤ x ∧ (0 ≤ y ∧ y < 2147483648) ∧ (0 ≤ c ∧ c + f ≤ 1099511627776) ∧ (0 ≤ t ∧ t ≤ 63)
theorem PurseAt.less {H : Hp} {p : Addr} {f g : Nat} (h : PurseAt H p f) (l : g ≤ f) : PurseAt H p g := by
  obtain ⟨x, y, c, t, e, h1, h2, h3, h4⟩ := h
  exact ⟨x, y, c, t, e, h1, h2, ⟨h3.1, by omega⟩, h4⟩
def spMixed : Sp := fun vs H Q _ => ∃ y c t : Int, vs = [.int y, .int c, .int t] ∧ (0 ≤ y ∧ y < 2147483648) ∧ (0 ≤ c ∧ c ≤ 1099511627776) ∧ (0 ≤ t ∧ t ≤ 63) ∧ ∀ r : Int, 0 ≤ r → r < 2147483587 → Q (.int r) H
section
variable {P : Program} {w : World} {K : PySem.W.Frag} {mg : Str → Option Value} {base : Heap} {f fM : Addr} {fd fdM : FuncData}
theorem scMixed : FnScope ["_law_seed", "_law_spin", "_law_at", "_law_mixed_here"] ["_law_seed", "_law_spin", "_law_at"] (defScope sMixed) := ⟨rfl, rfl, rfl, by decide +kernel, rfl, by decide +kernel, by decide +kernel⟩
theorem ok_mixed (F : FnP K "_law_mixed" sMixed f fd) (T : Nm mg) : FnOk P w K mg base CX0 1 f fd ["_law_seed", "_law_spin", "_law_at"] spMixed := by
  refine F.ok scMixed (fun vs H Q E h => ?_) (fun cdv A outer s H vs Q E hr h => ?_)
  · obtain ⟨y, c, t, rfl, _⟩ := h
    rfl
  · obtain ⟨y, c, t, rfl, hy, hc, ht, k⟩ := h
    refine ⟨_, PSs.nox (pss_cons (ps_set (i := 3) scMixed.nd rfl (Or.inl rfl) (pe_op op_add (pe_op op_mul (pv 0) pe_int) (pe_op op_mul (pe_op op_mul pe_int (pv 1)) (pv 1))))
      (pss_cons (ps_set (i := 3) scMixed.nd rfl (Or.inl rfl) (pe_op op_mod (pe_callTy call_int1 (by rfl) T.int (by decide +kernel) (pa_cons (pe_op op_add (pe_op op_add (pv 3) (pe_op op_mul pe_int (pv 2))) (pv 1)) pa_nil)) pe_int))
      (pss_cons (ps_set (i := 3) scMixed.nd rfl (Or.inl rfl) (pe_op op_mod (pe_callTy call_int1 (by rfl) T.int (by decide +kernel) (pa_cons (pe_op op_add (pe_op op_mul (pv 3) (pv 3)) pe_int) pa_nil)) pe_int))
      (pss_one (ps_ret (pe_op op_mod (pe_callTy call_int1 (by rfl) T.int (by decide +kernel) (pa_cons (pe_op op_mul (pv 3) pe_int) pa_nil)) pe_int)))))), ?_⟩
    refine ⟨_, rfl, _, _, rfl, rfl, .inl ⟨by omega, by omega⟩, _, rfl, _, _, rfl, rfl, .inr ⟨by omega, by omega⟩, _, rfl, _, _, rfl, rfl, .inr ⟨by omega, by omega⟩, _, _, rfl, rfl, ?_⟩
    refine ⟨_, rfl, _, rfl, _, _, rfl, rfl, .inl ⟨by omega, by omega⟩, _, _, rfl, rfl, _, rfl, _, _, rfl, rfl, .inl ⟨_, rfl, _, _, rfl, rfl, (show (0 : Int) < 2147483647 by decide), ?_⟩⟩
    refine ⟨_, rfl, _, rfl, _, _, rfl, rfl, .inl ⟨by omega, by omega⟩, _, _, rfl, rfl, .inl ⟨_, rfl, _, _, rfl, rfl, (show (0 : Int) < 2147483629 by decide), ?_⟩⟩
    refine ⟨_, rfl, _, _, rfl, rfl, .inl ⟨by omega, by omega⟩, .inl ⟨_, rfl, _, _, rfl, rfl, (show (0 : Int) < 2147483587 by decide), ?_⟩⟩
    exact k _ (Int.emod_nonneg _ (by decide)) (Int.emod_lt_of_pos _ (by decide))

/-- all but what stands at p is as it was -/
def But (p : Addr) (H H' : Hp) : Prop := ∀ b o, b ≠ p → H b = some o → H' b = some o
theorem But.trans {p : Addr} {H H1 H2 : Hp} (a : But p H H1) (b : But p H1 H2) : But p H H2 := fun c o n h => b c o n (a c o n h)
theorem But.refl (p : Addr) (H : Hp) : But p H H := fun _ _ _ h => h
theorem Same.but {p : Addr} {H H1 : Hp} (a : Same H H1) : But p H H1 := fun c o _ h => a c o h
def spDraw : Sp := fun vs H Q _ => ∃ (p : Addr) (f : Nat) (m : Int), vs = [.ref p, .int m] ∧ PurseAt H p (f + 1) ∧ (1 ≤ m ∧ m ≤ 1000000) ∧ ∀ (r : Int) (H' : Hp), 0 ≤ r → r < m → PurseAt H' p f → But p H H' → Q (.int r) H'
theorem bits_small {m : Int} (h0 : 1 ≤ m) (h1 : m ≤ 1000000) : ((Builtin.Int.intBits m : Nat) : Int) / 28 = 0 := by
  have b : Builtin.Int.intBits m ≤ m.natAbs.log2 + 1 := by
    unfold Builtin.Int.intBits
    split <;> omega
  have h2 : m.natAbs.log2 < 20 := (Nat.log2_lt (by omega)).mpr (by omega)
  omega
theorem scDraw : FnScope ["_law_purse_here", "_law_many", "_law_drawn", "_law_found", "_law_piece"] ["_law_purse_here", "_law_many"] (defScope sDraw) := ⟨rfl, rfl, rfl, by decide +kernel, rfl, by decide +kernel, by decide +kernel⟩
theorem ok_draw (F : FnP K "_law_draw" sDraw f fd) (T : Nm mg) (FM : FnP K "_law_mixed" sMixed fM fdM) (gM : mg "_law_mixed" = some (.ref fM)) : FnOk P w K mg base CX0 2 f fd ["_law_purse_here", "_law_many"] spDraw := by
  have GM : FnOk P w K mg base CX0 1 fM fdM ["_law_seed", "_law_spin", "_law_at"] spMixed := ok_mixed FM T
  have bM : Binds K fdM ["_law_seed", "_law_spin", "_law_at"] [] := FM.bindsN fun _ _ _ _ _ _ us hl => match us, hl with | [_, _, _], _ => rfl
  refine F.ok scDraw (fun vs H Q E h => ?_) (fun cdv A outer s H vs Q E hr h => ?_)
  · obtain ⟨p, g, m, rfl, _⟩ := h
    rfl
  · obtain ⟨p, g, m, rfl, ⟨x, y, c, t, hp, hx, hy, hc, ht⟩, hm, k⟩ := h
    refine ⟨_, PSs.nox (pss_cons (ps_if (pt_cmpR op_gt (pe_ix ix_list (pv 0) pe_int (fun _ _ => rfl)) pe_int (nomark _))
        (pss_cons (ps_set (i := 2) scDraw.nd rfl (Or.inl rfl) (pe_op op_mod (pe_callTy call_int1 (by rfl) T.int (by decide +kernel) (pa_cons (pe_ix ix_list (pv 0) pe_int (fun _ _ => rfl)) pa_nil)) (pv 1)))
        (pss_cons (ps_asg (pe_op op_fdiv (pe_ix ix_list (pv 0) pe_int (fun _ _ => rfl)) (pv 1)) (pg_sub (pv 0) pe_int set_list))
        (pss_one (ps_ret (pv 2))))) pss_nil)
      (pss_cons (ps_set (i := 3) scDraw.nd rfl (Or.inl rfl) pe_int)
      (pss_cons (ps_for PassesOwn.never rfl (pi_range1 rfl T.range (pa_cons (pe_op op_add pe_int (pe_op op_fdiv (pe_bits (pv 1)) pe_int)) pa_nil)) (pg_name (i := 4) scDraw.nd rfl (Or.inl rfl))
        (pss_cons (ps_asg (pe_op op_add (pe_ix ix_list (pv 0) pe_int (fun _ _ => rfl)) pe_int) (pg_sub (pv 0) pe_int set_list))
        (pss_one (ps_set (i := 3) scDraw.nd rfl (Or.inl rfl) (pe_op op_add (pe_op op_mul (pv 3) pe_int) (pe_call GM hr rfl gM FM.kp bM .nil pass0 (pa_cons (pe_ix ix_list (pv 0) pe_int (fun _ _ => rfl)) (pa_cons (pe_ix ix_list (pv 0) pe_int (fun _ _ => rfl)) (pa_cons (pe_ix ix_list (pv 0) pe_int (fun _ _ => rfl)) pa_nil)))))))))
      (pss_one (ps_ret (pe_op op_mod (pe_callTy call_int1 (by rfl) T.int (by decide +kernel) (pa_cons (pv 3) pa_nil)) (pv 1))))))), ?_⟩
    refine ⟨_, rfl, p, _, _, _, rfl, rfl, SqL.of hp, atI_nat (j := 0) rfl, _, _, rfl, rfl, _, rfl, ?_⟩
    refine ite2 (fun hd => ?_) (fun hd => ?_)
    · refine ⟨_, rfl, p, _, _, _, rfl, rfl, SqL.of hp, atI_nat (j := 0) rfl, .inl ⟨_, rfl, _, rfl, _, _, rfl, rfl, (show (0 : Int) < m by omega), ?_⟩⟩
      refine ⟨_, rfl, p, _, _, _, rfl, rfl, SqL.of hp, atI_nat (j := 0) rfl, _, rfl, _, _, rfl, rfl, ⟨by omega, by omega⟩, _, rfl, p, _, _, 0, rfl, rfl, hp, rfl, ?_⟩
      refine ⟨_, rfl, ?_⟩
      refine k _ _ (Int.emod_nonneg _ (by omega)) (Int.emod_lt_of_pos _ (by omega)) ⟨x / m, y, c, t, upd_same, Int.ediv_nonneg hx (by omega), hy, ⟨hc.1, by omega⟩, ht⟩ fun b o n z => ?_
      rw [upd_ne n]
      exact z
    · refine ⟨_, rfl, _, rfl, _, _, rfl, rfl, (show (0 : Int) < 28 ∧ (28 : Int) < 1073741824 by decide), _, _, rfl, rfl, ?_⟩
      rw [bits_small hm.1 hm.2]
      refine ⟨_, rfl, by decide, by decide, for_range (lo := 0) (n := 1) (fun i σ H2 => ∃ (r : Int) (v : Option V), σ = [some (.ref p), some (.int m), none, some (.int r), v] ∧ 0 ≤ r ∧ (i = 0 → H2 = H) ∧ (i = 1 → PurseAt H2 p g ∧ But p H H2))
        ⟨0, none, rfl, by decide, fun _ => rfl, fun z => by cases z⟩ ?_ ?_⟩
      · rintro i σ H2 hi ⟨r, v, rfl, hr0, h0, _⟩
        obtain rfl : i = 0 := by omega
        obtain rfl := h0 rfl
        refine ⟨_, rfl, p, _, _, _, rfl, rfl, SqL.of hp, atI_nat (j := 2) rfl, _, _, rfl, rfl, _, rfl, p, _, _, 2, rfl, rfl, hp, rfl, ?_⟩
        refine ⟨_, rfl, _, _, rfl, rfl, .inr ⟨by decide, by decide⟩, _, rfl, p, _, _, _, rfl, rfl, SqL.of upd_same, atI_nat (j := 1) rfl, _, rfl, p, _, _, _, rfl, rfl, SqL.of upd_same, atI_nat (j := 2) rfl, _, rfl, p, _, _, _, rfl, rfl, SqL.of upd_same, atI_nat (j := 3) rfl, ?_⟩
        refine ⟨y, c + 1, t, rfl, hy, ⟨by omega, by omega⟩, ht, fun q q0 q1 => ?_⟩
        refine ⟨_, _, rfl, rfl, r * 2147483587 + q, _, rfl, by omega, (fun z => by cases z), fun _ => ⟨⟨x, y, c + 1, t, upd_same, hx, hy, ⟨by omega, by omega⟩, ht⟩, fun b o n z => ?_⟩⟩
        rw [upd_ne n]
        exact z
      · rintro σ H2 ⟨r, v, rfl, hr0, _, h1⟩
        obtain ⟨hP, hB⟩ := h1 rfl
        refine ⟨_, rfl, .inl ⟨_, rfl, _, rfl, _, _, rfl, rfl, (show (0 : Int) < m by omega), ?_⟩⟩
        exact k _ _ (Int.emod_nonneg _ (by omega)) (Int.emod_lt_of_pos _ (by omega)) hP hB

def FUEL : Nat := 1000000000000
def spPurse (K : PySem.W.Frag) : Sp := fun vs H Q _ => ∃ (a : Addr) (ns : List Int) (t : Int), vs = [.ref a, .int t] ∧ SqL K H a (ns.map V.int) ∧ (0 ≤ t ∧ t ≤ 63) ∧ ∀ (p : Addr) (H' : Hp), H p = none → Same H H' → PurseAt H' p FUEL → Q (.ref p) H'
theorem cut_ints (ns : List Int) (lo hi : Option Int) : ∃ ms : List Int, cutV (ns.map V.int) lo hi = ms.map V.int := by
  unfold cutV
  rw [← List.map_drop, ← List.map_take]
  exact ⟨_, rfl⟩
theorem scPurse : FnScope ["_law_script", "_law_at", "_law_seed"] ["_law_script", "_law_at"] (defScope sPurse) := ⟨rfl, rfl, rfl, by decide +kernel, rfl, by decide +kernel, by decide +kernel⟩
theorem big_pos : (0 : Int) < ((10 : Int) ^ (60 : Int).toNat) ^ (8 : Int).toNat := Int.pow_pos (Int.pow_pos (by decide))
theorem pow_ok : CPowW ((10 : Int) ^ (60 : Int).toNat) 8 := ⟨by decide, by decide +kernel⟩
theorem ok_purse (F : FnP K "_law_purse" sPurse f fd) (T : Nm mg) : FnOk P w K mg base CX0 1 f fd ["_law_script", "_law_at"] (spPurse K) := by
  refine F.ok scPurse (fun vs H Q E h => ?_) (fun cdv A outer s H vs Q E hr h => ?_)
  · obtain ⟨a, ns, t, rfl, _⟩ := h
    rfl
  · obtain ⟨a, ns, t, rfl, hS, ht, k⟩ := h
    refine ⟨_, PSs.nox (pss_cons (ps_set (i := 2) scPurse.nd rfl (Or.inl rfl) (pe_callB (cr_sum rfl) (by rfl) T.sum (by decide +kernel) (pa_cons (pe_slice sl_list (pv 0) (po_some (pv 1)) (po_some (pe_op op_add (pv 1) pe_int))) pa_nil)))
      (pss_one (ps_ret (pe_lst (pa_cons (pe_op op_mod (pe_callTy call_int1 (by rfl) T.int (by decide +kernel) (pa_cons (pe_callB (call_max2 rfl) (by rfl) T.max (by decide +kernel) (pa_cons (pe_op op_sub (pv 2) (pe_op op_pow pe_int pe_int)) (pa_cons pe_int pa_nil))) pa_nil)) (pe_op op_powW (pe_op op_pow pe_int pe_int) pe_int))
        (pa_cons (pe_op op_mod (pe_callTy call_int1 (by rfl) T.int (by decide +kernel) (pa_cons (pv 2) pa_nil)) pe_int) (pa_cons pe_int (pa_cons (pv 1) pa_nil)))))))), ?_⟩
    obtain ⟨ms, hms⟩ := cut_ints ns (some t) (some (t + 1))
    refine ⟨_, rfl, _, rfl, _, rfl, _, rfl, _, _, rfl, rfl, _, rfl, a, _, rfl, hS, fun p np => ?_⟩
    refine ⟨p, ms, rfl, SqL.of (by rw [upd_same, hms]), ?_⟩
    refine ⟨_, rfl, _, _, rfl, rfl, ⟨by decide, by decide, by decide⟩, _, _, rfl, rfl, _, _, rfl, .inl ⟨_, rfl, _, _, rfl, rfl, ⟨by decide, by decide, by decide⟩, _, _, rfl, rfl, pow_ok, _, _, rfl, rfl, big_pos, ?_⟩⟩
    refine ⟨_, rfl, .inl ⟨_, rfl, _, _, rfl, rfl, (show (0 : Int) < 2147483629 by decide), _, rfl, (by show 4 ≤ sizeLine; decide), fun q nq => ?_⟩⟩
    have hq : H q = none := by
      by_cases e : q = p
      · rw [e]
        exact np
      · rw [upd_ne e] at nq
        exact nq
    refine k q _ hq (fun b o z => ?_) ⟨_, _, 0, t, upd_same, Int.emod_nonneg _ (Int.ne_of_gt big_pos), ⟨Int.emod_nonneg _ (by decide), Int.lt_trans (Int.emod_lt_of_pos _ (by decide)) (by decide)⟩, ⟨by decide, by decide⟩, ht⟩
    rw [upd_ne (ne_of_none z hq), upd_ne (ne_of_none z np)]
    exact z
def spOne (K : PySem.W.Frag) : Sp := fun vs H Q _ => ∃ (p a : Addr) (f : Nat) (xs : List V), vs = [.ref p, .ref a] ∧ PurseAt H p (f + 1) ∧ SqL K H a xs ∧ a ≠ p ∧ (0 < xs.length ∧ xs.length ≤ 1000000) ∧ ∀ (i : Nat) (x : V) (H' : Hp), xs[i]? = some x → PurseAt H' p f → But p H H' → Q x H'

theorem But.seq {K : PySem.W.Frag} {p a : Addr} {H H' : Hp} {xs : List V} (b : But p H H') (n : a ≠ p) (h : SqL K H a xs) : SqL K H' a xs := by
  rcases h with (h | ⟨o, h⟩) | h
  · exact .inl (.inl (b _ _ n h))
  · exact .inl (.inr ⟨o, b _ _ n h⟩)
  · exact .inr h
theorem atI_in {α : Type} (xs : List α) {r : Int} (h0 : 0 ≤ r) (h1 : r < xs.length) : ∃ (i : Nat) (x : α), xs[i]? = some x ∧ atI xs r = some x := by
  have hi : r.toNat < xs.length := by omega
  refine ⟨r.toNat, xs[r.toNat], List.getElem?_eq_getElem hi, ?_⟩
  have e : r = (r.toNat : Int) := (Int.toNat_of_nonneg h0).symm
  have z := atI_nat (List.getElem?_eq_getElem hi)
  rw [← e] at z
  exact z
theorem scOne : FnScope ["_law_purse_here", "_law_some"] ["_law_purse_here", "_law_some"] (defScope sOne) := ⟨rfl, rfl, rfl, by decide +kernel, rfl, by decide +kernel, by decide +kernel⟩
theorem ok_one {fD : Addr} {fdD : FuncData} (F : FnP K "_law_one_of" sOne f fd) (T : Nm mg) (GD : FnOk P w K mg base CX0 2 fD fdD ["_law_purse_here", "_law_many"] spDraw) (bD : Binds K fdD ["_law_purse_here", "_law_many"] []) (kD : PySem.W.keepIn K (.ref fD) = true) (gD : mg "_law_draw" = some (.ref fD)) :
    FnOk P w K mg base CX0 3 f fd ["_law_purse_here", "_law_some"] (spOne K) := by
  refine F.ok scOne (fun vs H Q E h => ?_) (fun cdv A outer s H vs Q E hr h => ?_)
  · obtain ⟨p, a, g, xs, rfl, _⟩ := h
    rfl
  · obtain ⟨p, a, g, xs, rfl, hP, hS, ne, hl, k⟩ := h
    refine ⟨_, PSs.nox (pss_one (ps_ret (pe_ix ix_list (pv 1) (pe_call GD hr rfl gD kD bD .nil pass0 (pa_cons (pv 0) (pa_cons (pe_callB call_len (by rfl) T.len PySem.boot_len (pa_cons (pv 1) pa_nil)) pa_nil))) (fun _ _ => rfl)))), ?_⟩
    refine ⟨_, rfl, _, rfl, _, rfl, _, xs.length, rfl, Or.inl ⟨_, hS, rfl⟩, p, g, (xs.length : Int), rfl, hP, ⟨by omega, by omega⟩, fun r H' r0 r1 hP' hB => ?_⟩
    obtain ⟨i, x, hi, hx⟩ := atI_in xs r0 r1
    exact ⟨a, xs, r, x, rfl, rfl, hB.seq ne hS, hx, k i x H' hi hP' hB⟩
/-- a word of the language -/
def WordOk (z : Str) : Prop := (1 ≤ z.length ∧ z.length ≤ 8) ∧ ∀ c ∈ z.cps.toList, 97 ≤ c ∧ c ≤ 122
def spWord : Sp := fun vs H Q _ => ∃ (p : Addr) (f : Nat), vs = [.ref p] ∧ PurseAt H p (f + 10) ∧ ∀ (z : Str) (H' : Hp), WordOk z → PurseAt H' p f → But p H H' → Q (.str z) H'
theorem joinL_nil : ∀ l : List (List Nat), TL.joinL [] l = l.flatten
  | [] => rfl
  | [p] => by simp [TL.joinL]
  | p :: q :: r => by
    show p ++ ([] ++ TL.joinL [] (q :: r)) = _
    rw [joinL_nil (q :: r)]
    simp
def abc : Str := "abcdefghijklmnopqrstuvwxyz"
theorem abc_at {r : Int} (h0 : 0 ≤ r) (h1 : r < 26) : ∃ c : Nat, atI abc.cps.toList r = some c ∧ (97 ≤ c ∧ c ≤ 122) := by
  obtain ⟨i, x, hi, hx⟩ := atI_in abc.cps.toList h0 (by show r < (26 : Nat); omega)
  refine ⟨x, hx, ?_⟩
  have hall : ∀ c ∈ abc.cps.toList, 97 ≤ c ∧ c ≤ 122 := by decide +kernel
  exact hall x (List.mem_of_getElem? hi)
/-- one sign each -/
def Signs (ys : List Str) : Prop := ∀ y ∈ ys, ∃ c : Nat, y = ⟨#[c]⟩ ∧ (97 ≤ c ∧ c ≤ 122)
theorem signs_flat : ∀ {ys : List Str}, Signs ys → ((ys.map TL.tl).flatten.length = ys.length ∧ ∀ c ∈ (ys.map TL.tl).flatten, 97 ≤ c ∧ c ≤ 122)
  | [], _ => ⟨rfl, fun c z => nomatch z⟩
  | y :: r, h => by
    obtain ⟨i1, i2⟩ := signs_flat (ys := r) fun z hz => h z (List.mem_cons_of_mem _ hz)
    obtain ⟨c, rfl, hc⟩ := h y (List.mem_cons_self ..)
    refine ⟨?_, fun d hd => ?_⟩
    · show ([c] ++ (r.map TL.tl).flatten).length = _
      rw [List.length_append, i1]
      show 1 + r.length = r.length + 1
      omega
    · have hd2 : d ∈ [c] ++ (r.map TL.tl).flatten := hd
      rcases List.mem_append.mp hd2 with z | z
      · rw [List.mem_singleton.mp z]
        exact hc
      · exact i2 d z
theorem word_of {ys : List Str} (h : Signs ys) (h1 : 1 ≤ ys.length) (h8 : ys.length ≤ 8) : WordOk (Txt.join "" ys) := by
  obtain ⟨i1, i2⟩ := signs_flat h
  have e : (Txt.join "" ys).cps.toList = (ys.map TL.tl).flatten := by
    rw [TL.join_eq]
    show TL.tl (Str.join "" ys) = _
    rw [TL.tl_join]
    exact joinL_nil _
  have el : (Txt.join "" ys).length = ys.length := by
    show (Txt.join "" ys).cps.size = _
    rw [← Array.length_toList, e, i1]
  exact ⟨⟨by omega, by omega⟩, fun c hc => i2 c (by rw [← e]; exact hc)⟩
theorem signs_len : ∀ {ys : List Str}, Signs ys → (ys.map (·.length)).sum = ys.length
  | [], _ => rfl
  | y :: r, h => by
    have i := signs_len (ys := r) fun z hz => h z (List.mem_cons_of_mem _ hz)
    obtain ⟨c, rfl, _⟩ := h y (List.mem_cons_self ..)
    rw [List.map_cons, List.sum_cons, i, List.length_cons]
    show 1 + r.length = r.length + 1
    omega
theorem scWord : FnScope ["_law_purse_here", "_law_size", "_law_spin"] ["_law_purse_here"] (defScope sWord) := ⟨rfl, rfl, rfl, by decide +kernel, rfl, by decide +kernel, by decide +kernel⟩
theorem ok_word {fD : Addr} {fdD : FuncData} (F : FnP K "_law_word" sWord f fd) (T : Nm mg) (GD : FnOk P w K mg base CX0 2 fD fdD ["_law_purse_here", "_law_many"] spDraw) (bD : Binds K fdD ["_law_purse_here", "_law_many"] []) (kD : PySem.W.keepIn K (.ref fD) = true) (gD : mg "_law_draw" = some (.ref fD)) :
    FnOk P w K mg base CX0 3 f fd ["_law_purse_here"] spWord := by
  refine F.ok scWord (fun vs H Q E h => ?_) (fun cdv A outer s H vs Q E hr h => ?_)
  · obtain ⟨p, g, rfl, _⟩ := h
    rfl
  · obtain ⟨p, g, rfl, hP, k⟩ := h
    refine ⟨_, PSs.nox (pss_cons (ps_set (i := 1) scWord.nd rfl (Or.inl rfl) (pe_op op_add pe_int (pe_call GD hr rfl gD kD bD .nil pass0 (pa_cons (pv 0) (pa_cons (pe_ifExp (pt_cmpR op_eq (pe_call GD hr rfl gD kD bD .nil pass0 (pa_cons (pv 0) (pa_cons pe_int pa_nil))) pe_int (nomark _)) pe_int pe_int) pa_nil)))))
      (pss_one (ps_ret (pe_join pe_str (pe_lc (own := [("_law_spin", 2)]) (g := gName 2) (tt := tYes) rfl scWord.nd (pi_range1 rfl T.range (pa_cons (pv 1) pa_nil)) (blkOk_by (own := [("_law_spin", 2)]) (N := ["_law_purse_here", "_law_size", "_law_spin"]) (sc := defScope sWord) (by decide +kernel))
        (fun _ _ _ _ _ => pg_name (i := 2) scWord.nd rfl (Or.inl rfl)) (fun _ _ _ _ _ => pts_nil)
        (fun _ _ _ _ _ => pe_ix ix_str pe_str (pe_call GD hr rfl gD kD bD .nil pass0 (pa_cons (pv 0) (pa_cons pe_int pa_nil))) (fun _ _ => rfl))))))), ?_⟩
    refine ⟨_, rfl, _, rfl, p, g + 9, 3, rfl, hP, ⟨by decide, by decide⟩, fun r H1 r0 r1 hP1 hB1 => ⟨rfl, _, rfl, ?_⟩⟩
    refine ite2 (fun hd => ⟨p, g + 8, 8, rfl, hP1, ⟨by decide, by decide⟩, fun r2 H2 r20 r21 hP2 hB2 => ⟨_, _, rfl, rfl, ?_⟩⟩) (fun hd => ⟨p, g + 8, 3, rfl, hP1, ⟨by decide, by decide⟩, fun r2 H2 r20 r21 hP2 hB2 => ⟨_, _, rfl, rfl, ?_⟩⟩)
    all_goals
      have hB : But p H H2 := hB1.trans hB2
      have hn : ((1 + r2).toNat : Int) = 1 + r2 := Int.toNat_of_nonneg (by omega)
      generalize hN : (1 + r2).toNat = n at hn
      refine ⟨⟨_, rfl⟩, _, rfl, _, rfl, (show -(2 ^ 62) ≤ (1 + r2 : Int) by omega), (show (1 + r2 : Int) < 2 ^ 62 by omega), fun D hD => ?_⟩
      have nD : D ≠ p := fun z => by
        obtain ⟨x, y, c, t, e, _⟩ := hP2
        rw [z, e] at hD
        cases hD
      have hD0 : H D = none := by
        cases e : H D with
        | none => rfl
        | some o =>
          rw [hB D o nD e] at hD
          cases hD
      refine lc_range (lo := 0) (n := (1 + r2).toNat) (fun i H3 => ∃ ys : List Str, ys.length = i ∧ Signs ys ∧ H3 D = some (.lst (ys.map V.str)) ∧ PurseAt H3 p (g + 8 - i) ∧ But p H H3) ?_ ?_ ?_
      · refine ⟨[], rfl, (fun y z => nomatch z), upd_same, ?_, fun b o nb z => ?_⟩
        · obtain ⟨x, y, c, t, e, h1⟩ := hP2
          exact ⟨x, y, c, t, by rw [upd_ne nD.symm]; exact e, h1⟩
        · rw [upd_ne (ne_of_none z hD0)]
          exact hB b o nb z
      · rintro i H3 hi ⟨ys, hl, hs, hDy, hP3, hB3⟩
        have e1 : g + 8 - i = g + 8 - (i + 1) + 1 := by omega
        rw [e1] at hP3
        refine ⟨rfl, ?_⟩
        refine ⟨_, rfl, p, g + 8 - (i + 1), 26, rfl, hP3, ⟨by decide, by decide⟩, fun r3 H4 r30 r31 hP4 hB4 => ?_⟩
        obtain ⟨c, hc, hc1⟩ := abc_at r30 r31
        have hD4 : H4 D = some (.lst (ys.map V.str)) := hB4 _ _ nD hDy
        refine ⟨_, _, c, rfl, rfl, (by show 26 ≤ sizeLine; decide), hc, _, hD4, (by rw [List.length_map]; exact small1000 (by omega)), ys ++ [⟨#[c]⟩], (by rw [List.length_append]; show ys.length + 1 = _; omega), ?_, ?_, ?_, ?_⟩
        · intro y hy
          rcases List.mem_append.mp hy with z | z
          · exact hs y z
          · exact ⟨c, List.mem_singleton.mp z, hc1⟩
        · rw [upd_same, List.map_append]
          rfl
        · obtain ⟨x, y, c2, t, e, h1⟩ := hP4
          exact ⟨x, y, c2, t, by rw [upd_ne nD.symm]; exact e, h1⟩
        · intro b o nb z
          rw [upd_ne (ne_of_none z hD0)]
          exact hB4 b o nb (hB3 b o nb z)
      · rintro H3 ⟨ys, hl, hs, hDy, hP3, hB3⟩
        refine ⟨_, D, ys, rfl, rfl, .inl (SqL.of hDy), ?_, ?_⟩
        · rw [signs_len hs]
          show ys.length + ys.length * 0 ≤ 16777216
          omega
        · exact k _ H3 (word_of hs (by omega) (by omega)) (hP3.less (by omega)) hB3

theorem PurseAt.to {H H' : Hp} {p : Addr} {f : Nat} (h : PurseAt H p f) (k : ∀ o, H p = some o → H' p = some o) : PurseAt H' p f := by
  obtain ⟨x, y, c, t, e, h1⟩ := h
  exact ⟨x, y, c, t, k _ e, h1⟩
theorem PurseAt.some {H : Hp} {p : Addr} {f : Nat} (h : PurseAt H p f) : ∃ o, H p = some o := by
  obtain ⟨x, y, c, t, e, h1⟩ := h
  exact ⟨_, e⟩
def spPurses (K : PySem.W.Frag) : Sp := fun vs H Q _ => ∃ (a : Addr) (ns : List Int) (w : Int), vs = [.ref a, .int w] ∧ SqL K H a (ns.map V.int) ∧ ns.length ≤ 63 ∧ (1 ≤ w ∧ w ≤ 63) ∧
  ∀ (L : Addr) (ps : List Addr) (H' : Hp), ps ≠ [] → (ps.length : Int) ≤ w → H L = none → H' L = some (.lst (ps.map V.ref)) → (∀ q ∈ ps, PurseAt H' q FUEL ∧ H q = none ∧ q ≠ L) → ps.Nodup → Same H H' → Q (.ref L) H'
theorem scPurses : FnScope ["_law_script", "_law_few", "_law_at"] ["_law_script", "_law_few"] (defScope sPurses) := ⟨rfl, rfl, rfl, by decide +kernel, rfl, by decide +kernel, by decide +kernel⟩
theorem ok_purses {fD : Addr} {fdD : FuncData} (F : FnP K "_law_purses" sPurses f fd) (T : Nm mg) (GD : FnOk P w K mg base CX0 1 fD fdD ["_law_script", "_law_at"] (spPurse K)) (bD : Binds K fdD ["_law_script", "_law_at"] []) (kD : PySem.W.keepIn K (.ref fD) = true) (gD : mg "_law_purse" = some (.ref fD)) :
    FnOk P w K mg base CX0 2 f fd ["_law_script", "_law_few"] (spPurses K) := by
  refine F.ok scPurses (fun vs H Q E h => ?_) (fun cdv A outer s H vs Q E hr h => ?_)
  · obtain ⟨a, ns, w, rfl, _⟩ := h
    rfl
  · obtain ⟨a, ns, w, rfl, hS, hl, hw, k⟩ := h
    refine ⟨_, PSs.nox (pss_one (ps_ret (pe_lc (own := [("_law_at", 2)]) (g := gName 2) (tt := tYes) rfl scPurses.nd (pi_range1 rfl T.range (pa_cons (pe_callB (call_max2 rfl) (by rfl) T.max (by decide +kernel) (pa_cons pe_int (pa_cons (pe_callB (call_min2 rfl) (by rfl) T.min (by decide +kernel) (pa_cons (pv 1) (pa_cons (pe_callB call_len (by rfl) T.len PySem.boot_len (pa_cons (pv 0) pa_nil)) pa_nil))) pa_nil))) pa_nil)) (blkOk_by (own := [("_law_at", 2)]) (N := ["_law_script", "_law_few", "_law_at"]) (sc := defScope sPurses) (by decide +kernel))
        (fun _ _ _ _ _ => pg_name (i := 2) scPurses.nd rfl (Or.inl rfl)) (fun _ _ _ _ _ => pts_nil)
        (fun _ _ _ _ _ => pe_call GD hr rfl gD kD bD .nil pass0 (pa_cons (pv 0) (pa_cons (pv 2) pa_nil)))))), ?_⟩
    generalize hm : (if (ns.length : Int) < w then (ns.length : Int) else w) = m
    generalize hn : (if m > 1 then m else 1) = n
    have hm63 : m ≤ w := by
      rw [← hm]
      split <;> omega
    have hn1 : 1 ≤ n ∧ n ≤ w := by
      rw [← hn]
      split <;> omega
    refine ⟨_, rfl, _, rfl, _, ns.length, rfl, Or.inl ⟨_, hS, (List.length_map _).symm⟩, _, _, rfl, _, _, rfl, n, ?_, (by omega), (by omega), fun D hD => ?_⟩
    · rw [hm, hn]
    refine lc_range (lo := 0) (n := n.toNat) (fun i H3 => ∃ ps : List Addr, ps.length = i ∧ H3 D = some (.lst (ps.map V.ref)) ∧ (∀ q ∈ ps, PurseAt H3 q FUEL ∧ H q = none ∧ q ≠ D) ∧ ps.Nodup ∧ Same H H3) ?_ ?_ ?_
    · refine ⟨[], rfl, upd_same, (fun q z => nomatch z), List.nodup_nil, fun b o z => ?_⟩
      rw [upd_ne (ne_of_none z hD)]
      exact z
    · rintro i H3 hi ⟨ps, hl3, h3, hps, hnd, s3⟩
      refine ⟨rfl, ?_⟩
      refine ⟨_, rfl, _, rfl, a, ns, (0 + (i : Int)), rfl, s3.seq hS, ⟨by omega, by omega⟩, fun q H4 nq s4 hq => ?_⟩
      have h4 : H4 D = some (.lst (ps.map V.ref)) := s4 _ _ h3
      have nqD : q ≠ D := fun z => by
        rw [z, h3] at nq
        cases nq
      have nqp : q ∉ ps := fun z => by
        obtain ⟨o, e⟩ := (hps q z).1.some
        rw [nq] at e
        cases e
      refine ⟨_, h4, (by rw [List.length_map]; exact small1000 (by omega)), ps ++ [q], (by rw [List.length_append]; show ps.length + 1 = _; omega), ?_, fun z hz => ?_, ?_, fun b o z => ?_⟩
      · rw [upd_same, List.map_append]
        rfl
      · rcases List.mem_append.mp hz with hz | hz
        · obtain ⟨h1, h2, h5⟩ := hps z hz
          exact ⟨(h1.to fun o e => by rw [upd_ne h5]; exact s4 _ _ e), h2, h5⟩
        · rw [List.mem_singleton.mp hz]
          exact ⟨(hq.to fun o e => by rw [upd_ne nqD]; exact e), s3.free nq, nqD⟩
      · refine List.nodup_append.mpr ⟨hnd, by simp, fun x hx y hy e => ?_⟩
        rw [List.mem_singleton.mp hy] at e
        exact nqp (e ▸ hx)
      · rw [upd_ne (ne_of_none z hD)]
        exact s4 _ _ (s3 _ _ z)
    · rintro H3 ⟨ps, hl3, h3, hps, hnd, s3⟩
      refine k D ps H3 (fun z => ?_) (by omega) hD h3 hps hnd s3
      rw [z] at hl3
      simp only [List.length_nil] at hl3
      omega
end
end Yt

set_option Elab.async false
set_option linter.all false
set_option maxRecDepth 100000
set_option maxHeartbeats 2000000
namespace Yt
open PySem PySem.Spec PyProof.Rows L2
/-! ### dicts whose keys are tuples, made by a comprehension -/
/-- a new item under a tuple, as the comprehension stores it -/
theorem set_tup {X : Cx} {pins : List (Addr × Obj)} {σ : L2.St} {H : Hp} {s : Shared} {E : Value → Shared → Prop} {D b : Addr} {m : List (List Key × V)} {k : List Key} {v : V} {u r : Value} {Q : Unit → Shared → Prop}
    (hu : X.A.units < cLine) (I : Inv X pins σ H s) (hD : H D = some (.dT m)) (few : m.length < sizeLine) (hb : H b = some (.tup (k.map kV))) (ry : RelV (.ref b) u) (rv : RelV v r)
    (q : ∀ t, Inv X pins σ (upd H D (.dT (putK m k v))) t → Q () t) : wpAny (model X.prog X.w) X.A (dictSet D u r) Q E s := by
  obtain rfl : u = Value.ref b := ry
  obtain ⟨le, nosys, xs, rel, dd⟩ := dt_of I.hok hD
  refine wpAny_dictSet_heap (hsz := by rw [← Paired.length rel]; exact le) hu (key_of I.hok hb) dd fun h2 dd2 same => q _ ?_
  obtain ⟨o, es, ep, f1, f2, f3, f4, _, f5⟩ := dd2
  have small : (putK m k v).length ≤ sizeLine := by
    have := length_putK m k v
    omega
  refine d_write I (by rw [hD]; trivial) same ⟨o, f1⟩ ⟨small, nosys, _, (rel.put k hb rv).keeps fun c ys ec => ?_, o, es, ep, f1, f2, f3, f4, f5⟩
  exact (upd_ne (ne_of ec hD (fun z => nomatch z))).trans ec
/-- what one turn of such a comprehension stores -/
def stT (D : Addr) (y z : V) (H : Hp) (N : Hp → Prop) : Prop := ∃ (m : List (List Key × V)) (k : List Key) (b : Addr), y = .ref b ∧ H b = some (.tup (k.map kV)) ∧ H D = some (.dT m) ∧ m.length < sizeLine ∧ N (upd H D (.dT (putK m k z)))
/-- one turn -/
def turnT (g : TG) (tt : TT) (tk tv : TE) (vs : List Nat) (σ : L2.St) (D : Addr) (x : V) (H : Hp) (N : Hp → Prop) : Prop :=
  g x (wipe σ vs) H fun σ2 H2 => wipe σ2 vs = wipe σ vs ∧ tt σ2 H2 fun c H3 => if c = true then tk σ2 H3 fun y H4 => tv σ2 H4 fun z H5 => stT D y z H5 N else N H3
def goesT (g : TG) (tt : TT) (tk tv : TE) (vs : List Nat) (σ : L2.St) (J : It) (D : Addr) (W : Nat → Nat → Hp → Prop) (R : Hp → Prop) : Prop :=
  ∀ i m H, W i m H → (J.stop i H ∧ R H) ∨ (J.go i H ∧ ∃ N : Hp → Prop, (∀ H', N H' → ∃ m', m' < m ∧ W (i + 1) m' H') ∧ ∀ x H', J.yld i H x H' → turnT g tt tk tv vs σ D x H' N)
/-- {k: v for target in iter if ..}, its keys tuples -/
def tDcT (wi : TI) (g : TG) (tt : TT) (tk tv : TE) (vs : List Nat) : TE := fun σ H Q =>
  wi σ H fun J H1 => ∀ D, H1 D = none → ∃ W : Nat → Nat → Hp → Prop, (∃ m, W 0 m (upd H1 D (.dT []))) ∧ goesT g tt tk tv vs σ J D W fun H2 => Q (.ref D) H2

section
variable {X : Cx}
/-- the comprehension: its block, its loop, its end -/
theorem dcT_core {pins : List (Addr × Obj)} {s : Shared} {σ : L2.St} {H : Hp} {Q : VK} {kx vx tg it : Expr} {ifs : List Expr} {sc : Scope} {own : List (Str × Nat)} {p p' : Pos} {wi : TI} {g : TG} {tt : TT} {tk tv : TE} {Qf : Value → Shared → Prop}
    (calm : X.calm = true) (nd : X.N.Nodup) (hu : X.A.units < cLine) (I : Inv X pins σ H s) (hi : PI X tg it wi) (ok : BlkOk X.N X.env.scope sc own)
    (hg : ∀ s H C cl fp, PG (X.blk s H sc (compEnvC sc cl C X.env) fp) tg g) (ht : ∀ s H C cl fp, PTs (X.blk s H sc (compEnvC sc cl C X.env) fp) ifs tt)
    (hk : ∀ s H C cl fp, PE (X.blk s H sc (compEnvC sc cl C X.env) fp) kx tk) (hv : ∀ s H C cl fp, PE (X.blk s H sc (compEnvC sc cl C X.env) fp) vx tv)
    (hs : ∀ x, foldedSetIterable it X.env x = pure x) (h : tDcT wi g tt tk tv (own.map (·.2)) σ H Q)
    (fin : ∀ D C t m H', Inv X pins σ H' t → Q (.ref D) H' → t.heap.Ns C m → FpOk X pins H' C → compPost (model X.prog X.w) X.A X.xe none Qf (.ref D) C (.ok .next) t) :
    wpAny (model X.prog X.w) X.A (comprehension (.DictComp kx vx [⟨tg, it, ifs, 0⟩] sc p) sc X.env p' newDict false (eval it X.env)) Qf X.xe s := by
  have clo : ∀ y ∈ sc.names, y.2 = .free → ∃ c, X.env.cells.lookup y.1 = some c := fun y hy e => (ok.free y hy e).elim (fun k => I.ok.has _ (.inl k)) fun k => I.ok.has _ (.inr k)
  refine wpAny_comprehension_free (use := none) rfl hs (closure_ok clo) ok.kind (fun y hy e => by rw [ok.uniq y hy, e]) (thn (hi.run pins s σ H _ I h) fun _ s1 hx => thn hx fun _ s2 ⟨a, fp, tn, J, H2, ea, I2, T, st2, f2, q⟩ => ?_)
  subst ea
  refine wpAny_newObj_type (newEnv_comp ?_)
  obtain ⟨D, hD⟩ : ∃ D, D = s2.heap.objs.size := ⟨_, rfl⟩
  rw [← hD]
  have nD : H2 D = none := I2.hok.fresh (Nat.le_of_eq hD.symm)
  obtain ⟨W, ⟨m0, w0⟩, turn⟩ := q D nD
  have I3 : Inv X pins σ (upd H2 D (.dT [])) ⟨s2.heap.push { cls := .type "dict", data := .dict #[] }, s2.gens, s2.drawn, s2.toks, s2.os⟩ := by
    refine I2.laid (t' := s2.toks) (fun b o e => Heap.get?_push_of_some _ e) (Nat.le_of_eq hD.symm) ?_
    rw [hD]
    exact dt_empty s2.heap I2.big
  have live : ∀ b ∈ fp, b < s2.heap.objs.size := fun b hb => (T.obj _ _ st2 b hb).elim fun o e => Heap.lt_size e.1
  have f3 : ∀ b ∈ fp, FpOk X pins (upd H2 D (.dT [])) b ∧ b < (s2.heap.push { cls := .type "dict", data := .dict #[] }).objs.size := fun b hb =>
    ⟨⟨(upd_ne (by rw [hD]; exact Nat.ne_of_lt (live b hb))).trans (f2 b hb).1, (f2 b hb).2⟩, by rw [Heap.size_push]; exact Nat.lt_succ_of_lt (live b hb)⟩
  have st3 : tn 0 (s2.heap.push { cls := .type "dict", data := .dict #[] }) := T.keep _ _ _ st2 fun b _ o e => Heap.get?_push_of_some _ e
  have I4 := block_start I3 ok nd f3
  generalize hs3 : (⟨s2.heap.push { cls := .type "dict", data := .dict #[] }, s2.gens, s2.drawn, s2.toks, s2.os⟩ : Shared) = s3 at I3 I4 ⊢
  have h3 : s3.heap = s2.heap.push { cls := .type "dict", data := .dict #[] } := by rw [← hs3]
  rw [← h3] at f3 st3
  have pg := hg s3 (upd H2 D (.dT [])) s3.heap.objs.size (cellsFrom (s3.heap.objs.size + 1) sc.names (cloFrom X.env.cells sc.names [])) fp
  have pt := ht s3 (upd H2 D (.dT [])) s3.heap.objs.size (cellsFrom (s3.heap.objs.size + 1) sc.names (cloFrom X.env.cells sc.names [])) fp
  have pk := hk s3 (upd H2 D (.dT [])) s3.heap.objs.size (cellsFrom (s3.heap.objs.size + 1) sc.names (cloFrom X.env.cells sc.names [])) fp
  have pv := hv s3 (upd H2 D (.dT [])) s3.heap.objs.size (cellsFrom (s3.heap.objs.size + 1) sc.names (cloFrom X.env.cells sc.names [])) fp
  have unt : ∀ b ∈ fp, (upd H2 D (.dT [])) b = none := fun b hb => (f3 b hb).1.1
  show codeAny _ _ (.compStart (.DictComp kx vx [⟨tg, it, ifs, 0⟩] sc p) 0 (.ref a) (.ref D) (compEnvC sc (cellsFrom (s3.heap.objs.size + 1) sc.names (cloFrom X.env.cells sc.names [])) s3.heap.objs.size X.env)) _ ({ s3 with heap := pushCells (s3.heap.push { cls := .type "dict", data := .dict #[] }) sc.names } : Shared)
  obtain ⟨ce, hce⟩ : ∃ c, c = compEnvC sc (cellsFrom (s3.heap.objs.size + 1) sc.names (cloFrom X.env.cells sc.names [])) s3.heap.objs.size X.env := ⟨_, rfl⟩
  rw [← hce] at I4 pg pt pk pv ⊢
  have cL : ce.locals = s3.heap.objs.size := by rw [hce] <;> rfl
  obtain ⟨H3, hH3⟩ : ∃ G, G = upd H2 D (.dT []) := ⟨_, rfl⟩
  rw [← hH3] at I3 I4 pg pt pk pv w0 unt f3
  generalize hs4 : ({ s3 with heap := pushCells (s3.heap.push { cls := .type "dict", data := .dict #[] }) sc.names } : Shared) = s4 at I4 ⊢
  have st4 : tn 0 s4.heap := T.keep _ _ _ st3 fun b _ o e => by
    rw [← hs4]
    exact pushCells_keeps _ _ _ _ (Heap.get?_push_of_some _ e)
  have pinned : ∀ {σ' : L2.St} {G : Hp} {t : Shared}, Inv (X.blk s3 H3 sc ce fp) [] σ' G t → (∀ b ∈ fp, G b = none) → ∀ b ∈ fp, FpOk (X.blk s3 H3 sc ce fp) [] G b := fun {σ' G t} J' hn b hb =>
    ⟨hn b hb, (J'.ok.exf b hb).1, J'.ok.exfs b hb, .inl hb, fun x c e => (J'.ok.exf b hb).2 x c e, fun r hr => absurd (show r ∈ ([] : List (Addr × Obj)) ++ [] from hr) (by simp)⟩
  have loop : codeAny (model X.prog X.w) X.A (.compLoop (.DictComp kx vx [⟨tg, it, ifs, 0⟩] sc p) 0 (.ref a) (.ref D) ce) (compPost (model X.prog X.w) X.A X.xe none Qf (.ref D) s3.heap.objs.size) s4 := by
    refine compLoop_anyD (fun n t => ∃ i G, Inv (X.blk s3 H3 sc ce fp) [] (wipe σ (own.map (·.2))) G t ∧ tn i t.heap ∧ (∀ b ∈ fp, G b = none) ∧ W i n G) ?_ m0 ⟨0, H3, I4, st4, unt, w0⟩
    rintro n t5 ⟨i, H5, I5, st5, n5, w5⟩
    rcases turn i n H5 w5 with ⟨stop, qq⟩ | ⟨go, N, hN, step⟩
    · refine thnF (T.done (X.blk s3 H3 sc ce fp) rfl rfl rfl calm i [] t5 _ H5 (fun _ _ => False) I5 (pinned I5 n5) st5 stop) fun r t6 ⟨hr, I6⟩ => ?_
      subst hr
      have nC : H5 s3.heap.objs.size = none := by
        have z : H5 ce.locals = none := I6.free
        rwa [cL] at z
      obtain ⟨mm, hn, _⟩ := I6.loc
      have hn' : t6.heap.Ns ce.locals mm := hn
      rw [cL] at hn'
      exact fin D s3.heap.objs.size t6 mm H5 (I3.call' (ch := fp) I6.os I6.base I6.hok I6.bare fun b hb => ⟨(f3 b hb).1.2.2.2.1, (f3 b hb).1.2.1, (f3 b hb).1.2.2.2.2.1, (f3 b hb).1.2.2.2.2.2⟩) qq hn' (I3.fpOk (Nat.le_refl _) nC)
    · refine thnF (T.item (X.blk s3 H3 sc ce fp) rfl rfl rfl calm i [] t5 _ H5 (fun _ _ => False) I5 (pinned I5 n5) st5 go) fun r t6 ⟨u, hr, h6⟩ => ?_
      subst hr
      refine thnF h6 fun _ t7 ⟨x, H7, I7, r7, y7, st7, n7⟩ => ?_
      refine thnF (pg.run _ t7 _ H7 x u _ (I7.pinned (pinned I7 n7) (T.obj _ _ st7)) r7 (step x H7 y7)) fun _ t8 ⟨σ8, H8, I8, hw8, q8⟩ => ?_
      refine thnF (pt.run _ t8 σ8 H8 _ I8 q8) fun b t9 ⟨H9, I9, q9⟩ => ?_
      have back : ∀ {t : Shared} {G : Hp}, Inv (X.blk s3 H3 sc ce fp) ([] ++ pinsAt fp t7.heap) σ8 G t → N G → ∃ m, m < n ∧ ∃ i G, Inv (X.blk s3 H3 sc ce fp) [] (wipe σ (own.map (·.2))) G t ∧ tn i t.heap ∧ (∀ b ∈ fp, G b = none) ∧ W i m G := fun {t G} J' nx => by
        obtain ⟨m', lt, w'⟩ := hN G nx
        have held : ∀ b ∈ fp, ∀ o, t7.heap.get? b = some o → t.heap.get? b = some o ∧ G b = none := fun b hb o e =>
          have z := J'.pin (b, o) (List.mem_append_right _ (List.mem_append_right _ (mem_pinsAt hb e)))
          ⟨z.1, z.2.1⟩
        refine ⟨m', lt, i + 1, G, (J'.unpinned (pins := [])).weak (by rw [← hw8, wipe_length]) (fun j v e => (wipe_some (hw8.symm ▸ e)).1), T.keep _ _ _ st7 fun b hb o e => (held b hb o e).1, fun b hb => ?_, w'⟩
        obtain ⟨o, e, _⟩ := T.obj _ _ st7 b hb
        exact (held b hb o e).2
      cases b with
      | false => exact back I9 q9
      | true =>
        refine thnF (pk.run _ t9 σ8 H9 _ I9 q9) fun zk t10 ⟨yk, H10, I10, r10, q10⟩ => ?_
        refine thnF (pv.run _ t10 σ8 H10 _ I10 q10) fun zv t11 ⟨yv, H11, I11, r11, mm, k, bb, ek, hb11, hD11, few, nx⟩ => ?_
        subst ek
        exact set_tup (X := X.blk s3 H3 sc ce fp) hu I11 hD11 few hb11 r10 r11 fun t12 I12 => back I12 nx
  exact codeAny_compStart_dict loop (T.self X.A 0 _ _ _ st4 loop)
theorem pe_dcT {kx vx tg it : Expr} {ifs : List Expr} {sc : Scope} {own : List (Str × Nat)} {p : Pos} {wi : TI} {g : TG} {tt : TT} {tk tv : TE} (calm : X.calm = true) (nd : X.N.Nodup) (hu : X.A.units < cLine) (hi : PI X tg it wi) (ok : BlkOk X.N X.env.scope sc own)
    (hg : ∀ s H C cl fp, PG (X.blk s H sc (compEnvC sc cl C X.env) fp) tg g) (ht : ∀ s H C cl fp, PTs (X.blk s H sc (compEnvC sc cl C X.env) fp) ifs tt)
    (hk : ∀ s H C cl fp, PE (X.blk s H sc (compEnvC sc cl C X.env) fp) kx tk) (hv : ∀ s H C cl fp, PE (X.blk s H sc (compEnvC sc cl C X.env) fp) vx tv) (hs : ∀ x, foldedSetIterable it X.env x = pure x := by intro _; rfl) :
    PE X (.DictComp kx vx [⟨tg, it, ifs, 0⟩] sc p) (tDcT wi g tt tk tv (own.map (·.2))) := by
  refine ⟨fun pins s σ H Q I h => ?_⟩
  rw [arm_eval_DictComp]
  refine dcT_core calm nd hu I hi ok hg ht hk hv hs h fun D C t m H' J q hn f => ⟨m, hn, fun h2 sb => ?_⟩
  obtain ⟨f0, f1, f2, f3, f4, f5⟩ := f
  exact ⟨.ref D, H', J.turned (t' := t.toks) (fun b o hb e => (sb.2 b hb).trans e) f0 f1 f3 f4 f5, rfl, q⟩
end
/-- such a comprehension over a list that stays -/
theorem dcT_list {K : PySem.W.Frag} {a D : Addr} {xs : List V} {g : TG} {tt : TT} {tk tv : TE} {vs : List Nat} {σ : L2.St} {H1 : Hp} {R : Hp → Prop} (Pv : Nat → Hp → Prop) (h0 : Pv 0 (upd H1 D (.dT []))) (hl : ∀ i H, i ≤ xs.length → Pv i H → SqL K H a xs)
    (hs : ∀ i x H, xs[i]? = some x → Pv i H → turnT g tt tk tv vs σ D x H (Pv (i + 1))) (hd : ∀ H, Pv xs.length H → R H) : ∃ W : Nat → Nat → Hp → Prop, (∃ m, W 0 m (upd H1 D (.dT []))) ∧ goesT g tt tk tv vs σ (Itl K a) D W R := by
  refine ⟨fun i m H => m = xs.length - i ∧ i ≤ xs.length ∧ Pv i H, ⟨_, rfl, Nat.zero_le _, h0⟩, ?_⟩
  rintro i m H ⟨rfl, le, pv⟩
  rcases Nat.lt_or_ge i xs.length with lt | ge
  · refine .inr ⟨⟨xs, xs[i], hl i H le pv, List.getElem?_eq_getElem lt⟩, Pv (i + 1), fun H' p' => ⟨xs.length - (i + 1), by omega, rfl, lt, p'⟩, ?_⟩
    rintro x H' ⟨rfl, y⟩
    exact hs i x _ (y xs (hl i _ le pv)) pv
  · obtain rfl : i = xs.length := Nat.le_antisymm le ge
    exact .inl ⟨⟨xs, hl _ H le pv, Nat.le_refl _⟩, hd H pv⟩
end Yt

set_option Elab.async false
set_option linter.all false
set_option maxRecDepth 100000
set_option maxHeartbeats 2000000
namespace Yt
open PySem PySem.Spec PyProof.Rows L2
/-! ### dict(xs), xs a list of pairs whose first ones are tuples -/
/-- what such a dict holds: a later pair wins, the place is the first one's -/
def mergeT (m l : List (List Key × V)) : List (List Key × V) := l.foldl (fun acc e => putK acc e.1 e.2) m
theorem mergeT_len (l : List (List Key × V)) : ∀ m, (mergeT m l).length ≤ m.length + l.length := by
  induction l with
  | nil => exact fun m => Nat.le_refl _
  | cons e l ih =>
    intro m
    have h1 := ih (putK m e.1 e.2)
    have h2 := length_putK m e.1 e.2
    show (mergeT (putK m e.1 e.2) l).length ≤ _
    rw [List.length_cons]
    omega
theorem putK_new {m : List (List Key × V)} {k : List Key} {v : V} (h : k ∉ m.map (·.1)) : putK m k v = m ++ [(k, v)] := by
  unfold putK
  rw [if_neg]
  intro z
  obtain ⟨e, he, q⟩ := List.any_eq_true.mp z
  exact h (List.mem_map.mpr ⟨e, he, of_decide_eq_true q⟩)
/-- unlike keys: just the pairs -/
theorem mergeT_unlike (l : List (List Key × V)) : ∀ m, ((m ++ l).map (·.1)).Nodup → mergeT m l = m ++ l := by
  induction l with
  | nil => intro m _; rw [List.append_nil] <;> rfl
  | cons e l ih =>
    intro m nd
    have hn : e.1 ∉ m.map (·.1) := fun z => by
      rw [List.map_append, List.map_cons] at nd
      exact (List.nodup_append.mp nd).2.2 _ z _ List.mem_cons_self rfl
    have assoc : m ++ e :: l = (m ++ [e]) ++ l := by rw [List.append_assoc] <;> rfl
    show mergeT (putK m e.1 e.2) l = _
    rw [putK_new hn, ih _ (by rw [← assoc]; exact nd)]
    exact assoc.symm
section
variable {X : Cx}
abbrev PairT (K : PySem.W.Frag) (H : Hp) (p : Addr) (e : Addr × List Key × V) : Prop := SqT K H p [.ref e.1, e.2.2] ∧ H e.1 = some (.tup (e.2.1.map kV))
theorem trips {pins : List (Addr × Obj)} {σ : L2.St} {H : Hp} {s : Shared} (I : Inv X pins σ H s) : ∀ {ps : List Addr} {ks : List (Addr × List Key × V)}, Paired (PairT X.K H) ps ks →
    ∃ tr : List (List Key × Addr × Value), Paired (fun (e : Addr × List Key × V) t => t.1 = e.2.1 ∧ t.2.1 = e.1 ∧ H e.1 = some (.tup (e.2.1.map kV)) ∧ RelV e.2.2 t.2.2) ks tr ∧ tr.length = ps.length ∧
      ∀ (j : Nat) t, tr[j]? = some t → ∃ b, ps[j]? = some b ∧ IsTup s.heap b #[.ref t.2.1, t.2.2]
  | _, _, .nil => ⟨[], .nil, rfl, fun j t e => by simp at e⟩
  | _, _, .cons (a := p) (b := e) ⟨h, hk⟩ r => by
    obtain ⟨tr, rel, hl, hp⟩ := trips I r
    obtain ⟨its, rv, it, _⟩ := I.tuple h
    obtain ⟨u, y, ei, ru, ry⟩ := vals2 rv
    subst ei
    obtain rfl : u = Value.ref e.1 := ru
    refine ⟨(e.2.1, e.1, y) :: tr, .cons ⟨rfl, rfl, hk, ry⟩ rel, by rw [List.length_cons, List.length_cons, hl], fun j t ht => ?_⟩
    match j, ht with
    | 0, ht =>
      obtain rfl : (e.2.1, e.1, y) = t := Option.some.inj ht
      exact ⟨p, rfl, it⟩
    | j + 1, ht =>
      obtain ⟨b, e1, e2⟩ := hp j t (by simpa using ht)
      exact ⟨b, by simpa using e1, e2⟩
theorem merge_kt {H : Hp} : ∀ {ks : List (Addr × List Key × V)} {tr : List (List Key × Addr × Value)} {m : List (List Key × V)} {xs : List (List Key × Addr × Value)},
    Paired (fun (e : Addr × List Key × V) t => t.1 = e.2.1 ∧ t.2.1 = e.1 ∧ H e.1 = some (.tup (e.2.1.map kV)) ∧ RelV e.2.2 t.2.2) ks tr → KT H m xs → KT H (mergeT m (ks.map (·.2))) (storedAllH xs tr)
  | _, _, _, _, .nil, r => r
  | _, _, m, xs, .cons (a := e) (b := t) ⟨h1, h2, h3, h4⟩ rest, r => by
    have := merge_kt rest (r.put e.2.1 (b := e.1) h3 h4)
    rw [← h1, ← h2] at this
    rw [List.map_cons]
    show KT H (mergeT (putK m e.2.1 e.2.2) _) (storedAllH (storedH xs t.1 t.2.1 t.2.2) _)
    rw [← h1]
    exact this
theorem call_dictPT (calm : X.calm = true) (hu : X.A.units + 2 < cLine) : CallR X (.type "dict") (fun xs H Q => ∃ (a : Addr) (ps : List Addr) (ks : List (Addr × List Key × V)), xs = [.ref a] ∧ SqL X.K H a (ps.map V.ref) ∧ Paired (PairT X.K H) ps ks ∧
    ∀ p, H p = none → Q (.ref p) (upd H p (.dT (mergeT [] (ks.map (·.2)))))) := by
  intro pins s σ H xs us Q I r q
  obtain ⟨a, ps, ks, rfl, hq, hp, q⟩ := q
  obtain ⟨u, rfl, rx⟩ := vals1 r
  cases rx
  obtain ⟨its, rv, pl, hz⟩ := I.list hq
  obtain rfl := refs_at rv
  rw [List.length_map] at hz
  obtain ⟨tr, rel, hl, hpr⟩ := trips I hp
  obtain ⟨o, n, ho, hc, hd, hdat⟩ := pl
  have nm : (tr.map fun t => (Value.ref t.2.1, t.2.2)).length = tr.length := List.length_map _
  have key : ∀ x ∈ tr, (tupleKind (mixKind X.prog X.w)).is s.heap x.1 x.2.1 := by
    have go : ∀ {ks : List (Addr × List Key × V)} {tr : List (List Key × Addr × Value)}, Paired (fun (e : Addr × List Key × V) t => t.1 = e.2.1 ∧ t.2.1 = e.1 ∧ H e.1 = some (.tup (e.2.1.map kV)) ∧ RelV e.2.2 t.2.2) ks tr → ∀ x ∈ tr, (tupleKind (mixKind X.prog X.w)).is s.heap x.1 x.2.1 := by
      intro ks tr h
      induction h with
      | nil => intro x hx; exact nomatch hx
      | cons h _ ih =>
        intro x hx
        rcases List.mem_cons.mp hx with rfl | hx
        · rw [h.1, h.2.1]
          exact key_of I.hok h.2.2.1
        · exact ih x hx
    exact go rel
  refine PySem.call_dict_pairsH (knd := tupleKind (mixKind X.prog X.w)) (ps := tr) (PairArg.list a (ps.map Value.ref).toArray (fun j => ps.getD j 0) (tr.map fun t => (Value.ref t.2.1, t.2.2))) (I.ok.hd calm) hu ⟨⟨o, n, ho, hc, hd, hdat⟩, ?_, fun j k v e => ?_⟩
    ⟨nm.symm, fun i kk v e => ?_⟩ (fun h2 keep x hx => ?_) (by rw [nm, hl]; exact hz) (fun h2 tk dd keep => ?_)
  · rw [nm, hl]
    simp
  · rw [List.getElem?_map] at e
    obtain ⟨t, et, ee⟩ := Option.map_eq_some_iff.mp e
    cases ee
    obtain ⟨b, e1, e2⟩ := hpr j t et
    have eb : ps.getD j 0 = b := by rw [List.getD_eq_getElem?_getD, e1] <;> rfl
    show _ = some (Value.ref (ps.getD j 0)) ∧ PairAt s.heap (ps.getD j 0) _ _
    rw [eb]
    exact ⟨by simp [e1], .inl e2⟩
  · have e : (tr.map fun t => (Value.ref t.2.1, t.2.2))[i]? = some (kk, v) := e
    rw [List.getElem?_map] at e
    obtain ⟨t, et, ee⟩ := Option.map_eq_some_iff.mp e
    cases ee
    exact ⟨t.1, t.2.1, et, rfl⟩
  · obtain ⟨o', items, n', f1, f2⟩ := key x hx
    exact ⟨o', items, n', keep _ _ (Nat.ne_of_lt (Heap.lt_size f1)) (by simp) f1, f2⟩
  · have nosys : (s.heap.objs.size == sysModules) = false := beq_eq_false_iff_ne.mpr (Nat.ne_of_gt I.big)
    have few : (mergeT [] (ks.map (·.2))).length ≤ sizeLine := by
      refine Nat.le_trans (mergeT_len _ _) ?_
      rw [List.length_nil, Nat.zero_add, List.length_map, rel.length, hl]
      exact hz
    obtain ⟨q1, es, ep, d1, d2, d3, d4, _, d5⟩ := dd
    refine ⟨.ref s.heap.objs.size, upd H s.heap.objs.size (.dT (mergeT [] (ks.map (·.2)))), I.laid (t' := tk) (fun b o e => keep b o (by simp) e) (Nat.le_refl _) ⟨few, nosys, _, (merge_kt rel (.nil : KT H [] [])).keeps fun b ys ec => ?_, q1, es, ep, d1, d2, d3, d4, d5⟩, rfl, q _ (I.hok.fresh (Nat.le_refl _))⟩
    exact (upd_ne (ne_of_none ec (I.hok.fresh (Nat.le_refl _)))).trans ec
end
end Yt

set_option Elab.async false
set_option linter.all false
set_option maxRecDepth 100000
set_option maxHeartbeats 2000000
namespace Yt
open PySem PySem.Spec PyProof.Rows L2
abbrev sShuf : Stmt := top 41
abbrev sExact : Stmt := top 42
abbrev sWords : Stmt := top 44
abbrev sMarks : Stmt := top 45
abbrev sThrees : Stmt := top 46
theorem same_new {H : Hp} {a : Addr} {o : HO} (n : H a = none) : Same H (upd H a o) := fun b u z => by
  rw [upd_ne (ne_of_none z n)]
  exact z
/-- a list put in another order -/
def spShuf (K : PySem.W.Frag) : Sp := fun vs H Q _ => ∃ (p a : Addr) (f : Nat) (xs : List V), vs = [.ref p, .ref a] ∧ a ≠ p ∧ PurseAt H p (f + xs.length) ∧ SqL K H a xs ∧ xs.length ≤ 1000 ∧
  ∀ (L : Addr) (ys : List V) (H' : Hp), ys.Perm xs → H L = none → H' L = some (.lst ys) → PurseAt H' p f → But p H H' → Q (.ref L) H'
section
variable {P : Program} {w : World} {K : PySem.W.Frag} {mg : Str → Option Value} {base : Heap} {f : Addr} {fd : FuncData}
theorem scShuf : FnScope ["_law_purse_here", "_law_some", "_law_found", "_law_item"] ["_law_purse_here", "_law_some"] (defScope sShuf) := ⟨rfl, rfl, rfl, by decide +kernel, rfl, by decide +kernel, by decide +kernel⟩
theorem ok_shuf {fD : Addr} {fdD : FuncData} (F : FnP K "_law_shuffled" sShuf f fd) (T : Nm mg) (GD : FnOk P w K mg base CX0 2 fD fdD ["_law_purse_here", "_law_many"] spDraw) (bD : Binds K fdD ["_law_purse_here", "_law_many"] []) (kD : PySem.W.keepIn K (.ref fD) = true) (gD : mg "_law_draw" = some (.ref fD)) :
    FnOk P w K mg base CX0 3 f fd ["_law_purse_here", "_law_some"] (spShuf K) := by
  refine F.ok scShuf (fun vs H Q E h => ?_) (fun cdv A outer s H vs Q E hr h => ?_)
  · obtain ⟨p, a, g, xs, rfl, _⟩ := h
    rfl
  · obtain ⟨p, a, g, xs, rfl, ne, hP, hS, hl, k⟩ := h
    refine ⟨_, PSs.nox (pss_cons (ps_set (i := 2) scShuf.nd rfl (Or.inl rfl) (pe_lst pa_nil))
      (pss_cons (ps_for PassesOwn.never rfl (pi_list (pv 1)) (pg_name (i := 3) scShuf.nd rfl (Or.inl rfl))
        (pss_one (ps_expr (pe_bm PySem.F.plainAttrs_list PySem.F.slot_list_insert PySem.F.type_list_insert mt_insert (pv 2) (pa_cons (pe_call GD hr rfl gD kD bD .nil pass0 (pa_cons (pv 0) (pa_cons (pe_op op_add (pe_callB call_len (by rfl) T.len PySem.boot_len (pa_cons (pv 2) pa_nil)) pe_int) pa_nil))) (pa_cons (pv 3) pa_nil))))))
      (pss_one (ps_ret (pv 2))))), ?_⟩
    refine ⟨(by show 0 ≤ sizeLine; decide), fun L nL => ?_⟩
    have nLp : L ≠ p := fun z => by
      obtain ⟨x, y, c, t, e, _⟩ := hP
      rw [z, e] at nL
      cases nL
    have s1 := same_new (o := .lst []) nL
    refine ⟨_, rfl, a, rfl, ⟨_, s1.seq hS⟩, for_list (K := K) (a := a) (xs := xs) (fun i σ H2 => ∃ (v : Option V) (ys : List V), σ = [some (.ref p), some (.ref a), some (.ref L), v] ∧ ys.Perm (xs.take i) ∧ H2 L = some (.lst ys) ∧ PurseAt H2 p (g + (xs.length - i)) ∧ But p H H2)
      ⟨none, [], rfl, .refl _, upd_same, ?_, Same.but s1⟩ (fun i σ H2 _ ⟨_, _, _, _, _, _, h⟩ => h.seq ne hS) ?_ ?_⟩
    · exact hP.to fun o e => s1 _ _ e
    · rintro i u σ H2 hi ⟨v, ys, rfl, hp, hL, hP2, hB⟩
      have hlt : i < xs.length := (List.getElem?_eq_some_iff.mp hi).1
      have hys : ys.length = i := by
        rw [hp.length_eq, List.length_take]
        omega
      have hf : g + (xs.length - i) = (g + (xs.length - (i + 1))) + 1 := by omega
      rw [hf] at hP2
      refine ⟨_, rfl, .inl ⟨rfl, _, SqL.of hL⟩, _, rfl, _, rfl, _, ys.length, rfl, Or.inl ⟨_, SqL.of hL, rfl⟩, _, _, rfl, rfl, p, g + (xs.length - (i + 1)), _, rfl, hP2, ⟨by omega, by omega⟩, fun r H3 r0 r1 hP3 hB3 => ?_⟩
      have hL3 := hB3 _ _ nLp hL
      refine ⟨_, rfl, L, ys, r, u, rfl, rfl, hL3, ?_, r0, by omega, ?_⟩
      · rw [hys]
        show i < sizeLine
        rw [sizeLine_eq]
        omega
      · refine ⟨some u, _, rfl, ?_, upd_same, ?_, ?_⟩
        · have e1 : xs.take (i + 1) = xs.take i ++ [u] := by rw [List.take_add_one, hi] <;> rfl
          rw [e1, List.append_assoc]
          refine List.Perm.trans ?_ (List.Perm.append_right [u] hp)
          have h1 : (ys.take r.toNat ++ ([u] ++ ys.drop r.toNat)).Perm (u :: (ys.take r.toNat ++ ys.drop r.toNat)) := List.perm_middle
          rw [List.take_append_drop] at h1
          exact h1.trans (List.perm_append_singleton u ys).symm
        · exact hP3.to fun o e => (upd_ne nLp.symm).trans e
        · exact fun b o n e => (upd_ne (ne_of_none e nL)).trans (hB3 _ _ n (hB _ _ n e))
    · rintro σ H2 ⟨v, ys, rfl, hp, hL, hP2, hB⟩
      refine ⟨_, rfl, k L ys H2 ?_ nL hL ?_ hB⟩
      · rw [List.take_length] at hp
        exact hp
      · rw [Nat.sub_self] at hP2
        exact hP2
end
end Yt

set_option Elab.async false
set_option linter.all false
set_option maxRecDepth 100000
set_option maxHeartbeats 2000000
namespace Yt
open PySem PySem.Spec PyProof.Rows L2
structure Nm6 (mg : Str → Option Value) : Prop where
  isi : mg "isinstance" = none
  list : mg "list" = none
  tuple : mg "tuple" = none
  dict : mg "dict" = none
  bool : mg "bool" = none
  zip : mg "zip" = none
  all : mg "all" = none
/-- what holds nothing -/
def leafV : V → Bool
  | .int _ | .bl _ | .str _ | .non => true
  | _ => false
/-- the same data, of the same kinds, at most so deep; nothing of it stands at A -/
def Ex (H : Hp) : Nat → List Addr → V → V → Prop
  | 0, _, x, y => x = y ∧ leafV x = true
  | n + 1, A, x, y => (x = y ∧ leafV x = true) ∨
    (∃ (a b : Addr) (xs ys : List V), x = .ref a ∧ y = .ref b ∧ a ∉ A ∧ b ∉ A ∧ H a = some (.lst xs) ∧ H b = some (.lst ys) ∧ Paired (Ex H n A) xs ys ∧ xs.length ≤ 1000) ∨
    (∃ (a b : Addr) (xs ys : List V), x = .ref a ∧ y = .ref b ∧ a ∉ A ∧ b ∉ A ∧ H a = some (.tup xs) ∧ H b = some (.tup ys) ∧ Paired (Ex H n A) xs ys ∧ xs.length ≤ 1000) ∨
    (∃ (a b : Addr) (m l : List (List Key × V)), x = .ref a ∧ y = .ref b ∧ a ≠ b ∧ a ∉ A ∧ b ∉ A ∧ H a = some (.dT m) ∧ H b = some (.dT l) ∧ Paired (fun p q => p.1 = q.1 ∧ p.1.length ≤ 1000 ∧ Ex H n (a :: A) p.2 q.2) m l ∧ m.length ≤ 1000 ∧ 2 ≤ n ∧ (m.map (·.1)).Nodup)
theorem Ex.to {H H' : Hp} : ∀ {n : Nat} {A : List Addr} {x y : V}, Ex H n A x y → (∀ c o, c ∉ A → H c = some o → H' c = some o) → Ex H' n A x y
  | 0, _, _, _, h, _ => h
  | n + 1, A, x, y, h, k => by
    rcases h with h | ⟨a, b, xs, ys, rfl, rfl, h1, h2, h3, h4, h5, h6⟩ | ⟨a, b, xs, ys, rfl, rfl, h1, h2, h3, h4, h5, h6⟩ | ⟨a, b, m, l, rfl, rfl, h0, h1, h2, h3, h4, h5, h6⟩
    · exact .inl h
    · exact .inr (.inl ⟨a, b, xs, ys, rfl, rfl, h1, h2, k _ _ h1 h3, k _ _ h2 h4, Paired.mapP h5 fun _ _ z => z.to k, h6⟩)
    · exact .inr (.inr (.inl ⟨a, b, xs, ys, rfl, rfl, h1, h2, k _ _ h1 h3, k _ _ h2 h4, Paired.mapP h5 fun _ _ z => z.to k, h6⟩))
    · exact .inr (.inr (.inr ⟨a, b, m, l, rfl, rfl, h0, h1, h2, k _ _ h1 h3, k _ _ h2 h4, Paired.mapP h5 fun _ _ z => ⟨z.1, z.2.1, z.2.2.to fun c o hc => k c o fun q => hc (List.mem_cons_of_mem _ q)⟩, h6⟩))
theorem Ex.leaf {H : Hp} {n : Nat} {A : List Addr} {x : V} (h : leafV x = true) : Ex H n A x x := by
  cases n with
  | zero => exact ⟨rfl, h⟩
  | succ n => exact .inl ⟨rfl, h⟩
theorem bl_self (x : V) : V.bl (decide (x = x)) = V.bl true := by simp
theorem any_lt {K : PySem.W.Frag} {t : Value} {b c d : Bool} (h1 : PySem.W.kitOne K t (.type "list") = some b) (h2 : PySem.W.kitOne K t (.type "tuple") = some c) (e : (b || c) = d) : PySem.W.kitAny K t [.type "list", .type "tuple"] = some d := by
  subst e
  unfold PySem.W.kitAny
  rw [h1]
  cases b
  · unfold PySem.W.kitAny
    rw [h2]
    cases c <;> rfl
  · rfl
theorem valV_at : ∀ {m : List (List Key × V)} {i : Nat} {k : List Key} {v : V}, (m.map (·.1)).Nodup → m[i]? = some (k, v) → valV m k = some v
  | [], _, _, _, _, h => by simp at h
  | (k0, v0) :: m, 0, k, v, nd, h => by
    cases Option.some.inj h
    simp [valV]
  | (k0, v0) :: m, i + 1, k, v, nd, h => by
    have nd' := List.nodup_cons.mp nd
    have h' : m[i]? = some (k, v) := by simpa using h
    have ne : k0 ≠ k := fun e => nd'.1 (List.mem_map.mpr ⟨(k, v), List.mem_of_getElem? h', e.symm⟩)
    have := valV_at nd'.2 h'
    unfold valV at this ⊢
    rw [List.find?_cons_of_neg (by simpa using ne)]
    exact this
theorem leaf_key (k : Key) : leafV (kV k) = true := by cases k <;> rfl
theorem keys_ex {H H1 H2 : Hp} {R : List Key × V → List Key × V → Prop} {j : Nat} (k1 : ∀ b o, H1 b = some o → H b = some o) (k2 : ∀ b o, H2 b = some o → H b = some o) : ∀ {u l : List (List Key × V)} {bs cs : List Addr}, Paired (fun p q => p.1 = q.1 ∧ p.1.length ≤ 1000 ∧ R p q) u l → IsKeys H1 u bs → IsKeys H2 l cs →
    Paired (Ex H (j + 1) []) (bs.map V.ref) (cs.map V.ref)
  | _, _, _, _, .nil, .nil, .nil => .nil
  | _, _, _, _, .cons (a := p) (b := q) h t, .cons h1 t1, .cons h2 t2 => by
    refine .cons (.inr (.inr (.inl ⟨_, _, _, _, rfl, rfl, by simp, by simp, k1 _ _ h1, k2 _ _ h2, ?_, ?_⟩))) (keys_ex k1 k2 t t1 t2)
    · rw [← h.1]
      have go : ∀ ks : List Key, Paired (Ex H j []) (ks.map kV) (ks.map kV) := fun ks => by
        induction ks with
        | nil => exact .nil
        | cons k ks ih => exact .cons (Ex.leaf (leaf_key k)) ih
      exact go _
    · rw [List.length_map]
      exact h.2.1
theorem keys_len {H : Hp} : ∀ {u : List (List Key × V)} {bs : List Addr}, IsKeys H u bs → bs.length = u.length
  | _, _, .nil => rfl
  | _, _, .cons _ t => by rw [List.length_cons, List.length_cons, keys_len t]
theorem paired_at' {α β : Type} {R : α → β → Prop} : ∀ {xs : List α} {ys : List β}, Paired R xs ys → ∀ {i : Nat} {x : α}, xs[i]? = some x → ∃ y, ys[i]? = some y ∧ R x y
  | _, _, .nil, i, x, h => by simp at h
  | _, _, .cons h _, 0, x, hx => by
    cases Option.some.inj hx
    exact ⟨_, rfl, h⟩
  | _, _, .cons _ t, i + 1, x, hx => by
    obtain ⟨y, e, r⟩ := paired_at' t (by simpa using hx)
    exact ⟨y, by simpa using e, r⟩
theorem keys_same {R : List Key × V → List Key × V → Prop} : ∀ {u l : List (List Key × V)}, Paired (fun p q => p.1 = q.1 ∧ R p q) u l → u.map (·.1) = l.map (·.1)
  | _, _, .nil => rfl
  | _, _, .cons h t => by rw [List.map_cons, List.map_cons, h.1, keys_same t]
theorem all_rep (n : Nat) : (List.replicate n true).all id = true := by
  rw [List.all_eq_true]
  intro b h
  rw [(List.mem_replicate.mp h).2] <;> rfl
def spExact (K : PySem.W.Frag) : Nat → Sp
  | 0 => fun _ _ _ _ => False
  | n + 1 => fun vs H Q _ => ∃ (A : List Addr) (x y : V), vs = [x, y] ∧ Ex H n A x y ∧ ∀ H', Same H H' → Q (.bl true) H'
theorem walk_zipT {K : PySem.W.Frag} {a b : Addr} {xs ys : List V} {n : Nat} (hx : n = xs.length) (hy : n = ys.length) : Walk (RZ.ItzT K a b) n (fun H => SqT K H a xs ∧ SqT K H b ys) (YPair (fun i => xs[i]?) (fun i => ys[i]?)) := by
  refine ⟨fun i _ hi q => ⟨xs, ys, xs[i]'(by omega), ys[i]'(by omega), q.1, q.2, List.getElem?_eq_getElem _, List.getElem?_eq_getElem _⟩, fun _ q => ⟨xs, ys, q.1, q.2, .inl (by omega)⟩, ?_⟩
  rintro i H v H' _ q ⟨t, x, z, e1, e2, e3, e4, e5⟩
  exact ⟨t, x, z, e1, e2, e3, e4 xs q.1, e5 ys q.2⟩
theorem paired_get {α β : Type} {R : α → β → Prop} : ∀ {xs : List α} {ys : List β}, Paired R xs ys → ∀ {i : Nat} {x : α} {y : β}, xs[i]? = some x → ys[i]? = some y → R x y
  | _, _, .cons h t, 0, x, y, hx, hy => by
    cases Option.some.inj hx
    cases Option.some.inj hy
    exact h
  | _, _, .cons h t, i + 1, x, y, hx, hy => paired_get t (by simpa using hx) (by simpa using hy)
theorem len_ok {n : Nat} (h : n < 1001) : n < sizeLine := by
  rw [sizeLine_eq]
  omega
section
variable {P : Program} {w : World} {K : PySem.W.Frag} {mg : Str → Option Value} {base : Heap} {f : Addr} {fd : FuncData}
theorem scExact : FnScope ["_law_mine", "_law_theirs", "_law_alike", "_law_a", "_law_b", "_law_key"] ["_law_mine", "_law_theirs"] (defScope sExact) := ⟨rfl, rfl, rfl, by decide +kernel, rfl, by decide +kernel, by decide +kernel⟩
theorem ok_exact (F : FnP K "_law_exact" sExact f fd) (T : Nm mg) (T6 : Nm6 mg) (bE : Binds K fd ["_law_mine", "_law_theirs"] []) (kE : PySem.W.keepIn K (.ref f) = true) (gE : mg "_law_exact" = some (.ref f)) {n : Nat} (GE : FnOk P w K mg base CX0 n f fd ["_law_mine", "_law_theirs"] (spExact K n)) :
    FnOk P w K mg base CX0 (n + 1) f fd ["_law_mine", "_law_theirs"] (spExact K (n + 1)) := by
  refine F.ok scExact (fun vs H Q E h => ?_) (fun cdv A outer s H vs Q E hr h => ?_)
  · obtain ⟨_, x, y, rfl, _⟩ := h
    rfl
  · obtain ⟨B, x, y, rfl, hE, k⟩ := h
    have hu := hu_of hr
    refine ⟨_, PSs.nox (pss_cons (ps_if (pt_val (pe_callB call_isiT (by rfl) T6.isi (by decide +kernel) (pa_cons (pv 0) (pa_cons (pe_tup (pa_cons (pe_bltn (v := .ty "list") (u := .type "list") (by rfl) T6.list (by decide +kernel) rfl) (pa_cons (pe_bltn (v := .ty "tuple") (u := .type "tuple") (by rfl) T6.tuple (by decide +kernel) rfl) pa_nil))) pa_nil))))
        (pss_cons (ps_set (i := 2) scExact.nd rfl (Or.inl rfl) (pe_and (pe_cmpR op_eq (pe_callB call_isi (by rfl) T6.isi (by decide +kernel) (pa_cons (pv 1) (pa_cons (pe_bltn (v := .ty "list") (u := .type "list") (by rfl) T6.list (by decide +kernel) rfl) pa_nil))) (pe_callB call_isi (by rfl) T6.isi (by decide +kernel) (pa_cons (pv 0) (pa_cons (pe_bltn (v := .ty "list") (u := .type "list") (by rfl) T6.list (by decide +kernel) rfl) pa_nil))) (nomark _)) (pe_one (pe_cmpR op_eq (pe_callB call_isi (by rfl) T6.isi (by decide +kernel) (pa_cons (pv 1) (pa_cons (pe_bltn (v := .ty "tuple") (u := .type "tuple") (by rfl) T6.tuple (by decide +kernel) rfl) pa_nil))) (pe_callB call_isi (by rfl) T6.isi (by decide +kernel) (pa_cons (pv 0) (pa_cons (pe_bltn (v := .ty "tuple") (u := .type "tuple") (by rfl) T6.tuple (by decide +kernel) rfl) pa_nil))) (nomark _)))))
        (pss_one (ps_ret (pe_and (pv 2) (pe_and (pe_cmpR op_eq (pe_callB call_len (by rfl) T.len PySem.boot_len (pa_cons (pv 0) pa_nil)) (pe_callB call_len (by rfl) T.len PySem.boot_len (pa_cons (pv 1) pa_nil)) (nomark _)) (pe_one (pe_callB (cr_all rfl) (by rfl) T6.all (by decide +kernel) (pa_cons (pe_lc (own := [("_law_a", 3), ("_law_b", 4)]) (g := gTup K 2 (gCons (gName 3) (gCons (gName 4) gNil))) (tt := tYes) (te := tCall (spExact K n) [] E0 (tCons (tVar 3) (tCons (tVar 4) tNil))) rfl scExact.nd (RZ.pi_zipA rfl T6.zip (pa_cons (pv 0) (pa_cons (pv 1) pa_nil))) (blkOk_by (own := [("_law_a", 3), ("_law_b", 4)]) (N := ["_law_mine", "_law_theirs", "_law_alike", "_law_a", "_law_b", "_law_key"]) (sc := defScope sExact) (by decide +kernel))
          (fun _ _ _ _ _ => pg_tup rfl (pgs_cons (pg_name (i := 3) scExact.nd rfl (Or.inl rfl)) (pgs_cons (pg_name (i := 4) scExact.nd rfl (Or.inl rfl)) pgs_nil))) (fun _ _ _ _ _ => pts_nil) (fun _ _ _ _ _ => pe_call GE hr rfl gE kE bE .nil pass0 (pa_cons (pv 3) (pa_cons (pv 4) pa_nil)))) pa_nil)))))))) pss_nil)
      (pss_cons (ps_if (pt_val (pe_callB call_isi (by rfl) T6.isi (by decide +kernel) (pa_cons (pv 0) (pa_cons (pe_bltn (v := .ty "dict") (u := .type "dict") (by rfl) T6.dict (by decide +kernel) rfl) pa_nil))))
        (pss_cons (ps_set (i := 2) scExact.nd rfl (Or.inl rfl) (pe_and (pe_callB call_isi (by rfl) T6.isi (by decide +kernel) (pa_cons (pv 1) (pa_cons (pe_bltn (v := .ty "dict") (u := .type "dict") (by rfl) T6.dict (by decide +kernel) rfl) pa_nil))) (pe_one (pe_call GE hr rfl gE kE bE .nil pass0 (pa_cons (pe_callTy (call_list_dT rfl) (by rfl) T6.list (by decide +kernel) (pa_cons (pv 0) pa_nil)) (pa_cons (pe_callTy (call_list_dT rfl) (by rfl) T6.list (by decide +kernel) (pa_cons (pv 1) pa_nil)) pa_nil))))))
        (pss_one (ps_ret (pe_and (pv 2) (pe_one (pe_callB (cr_all rfl) (by rfl) T6.all (by decide +kernel) (pa_cons (pe_lock (pe_lc (own := [("_law_key", 5)]) (g := gName 5) (tt := tYes) (te := tCall (spExact K n) [] E0 (tCons (tDGet (tVar 0) (tVar 5)) (tCons (tDGet (tVar 1) (tVar 5)) tNil))) rfl scExact.nd (pi_keys (pv 0)) (blkOk_by (own := [("_law_key", 5)]) (N := ["_law_mine", "_law_theirs", "_law_alike", "_law_a", "_law_b", "_law_key"]) (sc := defScope sExact) (by decide +kernel))
          (fun _ _ _ _ _ => pg_name (i := 5) scExact.nd rfl (Or.inl rfl)) (fun _ _ _ _ _ => pts_nil) (fun _ _ _ _ _ => pe_call GE hr rfl gE kE bE .nil pass0 (pa_cons (pe_dget hu (pv 0) (pv 5) (fun _ _ => rfl)) (pa_cons (pe_dget hu (pv 1) (pv 5) (fun _ _ => rfl)) pa_nil))))) pa_nil))))))) pss_nil)
      (pss_cons (ps_set (i := 2) scExact.nd rfl (Or.inl rfl) (pe_cmpR op_eq (pe_callB call_isi (by rfl) T6.isi (by decide +kernel) (pa_cons (pv 0) (pa_cons (pe_bltn (v := .ty "int") (u := .type "int") (by rfl) T.int (by decide +kernel) rfl) pa_nil))) (pe_callB call_isi (by rfl) T6.isi (by decide +kernel) (pa_cons (pv 1) (pa_cons (pe_bltn (v := .ty "int") (u := .type "int") (by rfl) T.int (by decide +kernel) rfl) pa_nil))) (nomark _)))
      (pss_one (ps_ret (pe_and (pv 2) (pe_and (pe_cmpR op_eq (pe_callB call_isi (by rfl) T6.isi (by decide +kernel) (pa_cons (pv 0) (pa_cons (pe_bltn (v := .ty "bool") (u := .type "bool") (by rfl) T6.bool (by decide +kernel) rfl) pa_nil))) (pe_callB call_isi (by rfl) T6.isi (by decide +kernel) (pa_cons (pv 1) (pa_cons (pe_bltn (v := .ty "bool") (u := .type "bool") (by rfl) T6.bool (by decide +kernel) rfl) pa_nil))) (nomark _)) (pe_one (pe_cmpR op_eq (pv 0) (pv 1) (nomark _)))))))))), ?_⟩
    have cases4 : (x = y ∧ leafV x = true) ∨ ∃ m, n = m + 1 ∧
        ((∃ (a b : Addr) (xs ys : List V), x = .ref a ∧ y = .ref b ∧ a ∉ B ∧ b ∉ B ∧ H a = some (.lst xs) ∧ H b = some (.lst ys) ∧ Paired (Ex H m B) xs ys ∧ xs.length ≤ 1000) ∨
        (∃ (a b : Addr) (xs ys : List V), x = .ref a ∧ y = .ref b ∧ a ∉ B ∧ b ∉ B ∧ H a = some (.tup xs) ∧ H b = some (.tup ys) ∧ Paired (Ex H m B) xs ys ∧ xs.length ≤ 1000) ∨
        (∃ (a b : Addr) (u l : List (List Key × V)), x = .ref a ∧ y = .ref b ∧ a ≠ b ∧ a ∉ B ∧ b ∉ B ∧ H a = some (.dT u) ∧ H b = some (.dT l) ∧ Paired (fun p q => p.1 = q.1 ∧ p.1.length ≤ 1000 ∧ Ex H m (a :: B) p.2 q.2) u l ∧ u.length ≤ 1000 ∧ 2 ≤ m ∧ (u.map (·.1)).Nodup)) := by
      cases n with
      | zero => exact .inl hE
      | succ m => exact hE.imp id fun h => ⟨m, rfl, h⟩
    clear hE
    rcases cases4 with ⟨rfl, hl⟩ | ⟨m, rfl, ⟨a, b, xs, ys, rfl, rfl, h1, h2, h3, h4, h5, h6⟩ | ⟨a, b, xs, ys, rfl, rfl, h1, h2, h3, h4, h5, h6⟩ | ⟨a, b, u, l, rfl, rfl, h0, h1, h2, h3, h4, h5, h6, h7, h8⟩⟩
    · match x, hl with
      | .int z, _ =>
        refine ⟨_, rfl, (by show 2 ≤ sizeLine; decide), fun tp ntp => ⟨_, tp, _, .type "int", [.type "list", .type "tuple"], false, rfl, upd_same, .cons (.ty _) (.cons (.ty _) .nil), .base (.int _), any_lt (b := false) (c := false) (kit_ty (by decide +kernel)) (kit_ty (by decide +kernel)) rfl, _, rfl, ?_⟩⟩
        refine iteF ?_
        refine ⟨_, rfl, _, _, .type "int", _, false, rfl, .ty _, .base (.int _), kit_ty (by decide +kernel), _, rfl, ?_⟩
        refine iteF ?_
        refine ⟨_, rfl, _, _, .type "int", _, true, rfl, .ty _, .base (.int _), kit_ty (by decide +kernel), _, rfl, _, _, .type "int", _, true, rfl, .ty _, .base (.int _), kit_ty (by decide +kernel), rfl, ?_⟩
        refine ⟨_, rfl, true, rfl, ?_⟩
        refine iteT ?_
        refine ⟨_, rfl, _, _, .type "int", _, false, rfl, .ty _, .base (.int _), kit_ty (by decide +kernel), _, rfl, _, _, .type "int", _, false, rfl, .ty _, .base (.int _), kit_ty (by decide +kernel), rfl, true, rfl, ?_⟩
        refine iteT ?_
        refine ⟨_, rfl, _, rfl, rfl, ?_⟩
        rw [bl_self]
        exact k _ (same_new ntp)
      | .bl z, _ =>
        refine ⟨_, rfl, (by show 2 ≤ sizeLine; decide), fun tp ntp => ⟨_, tp, _, .type "bool", [.type "list", .type "tuple"], false, rfl, upd_same, .cons (.ty _) (.cons (.ty _) .nil), .base (.bl _), any_lt (b := false) (c := false) (kit_ty (by decide +kernel)) (kit_ty (by decide +kernel)) rfl, _, rfl, ?_⟩⟩
        refine iteF ?_
        refine ⟨_, rfl, _, _, .type "bool", _, false, rfl, .ty _, .base (.bl _), kit_ty (by decide +kernel), _, rfl, ?_⟩
        refine iteF ?_
        refine ⟨_, rfl, _, _, .type "bool", _, true, rfl, .ty _, .base (.bl _), kit_ty (by decide +kernel), _, rfl, _, _, .type "bool", _, true, rfl, .ty _, .base (.bl _), kit_ty (by decide +kernel), rfl, ?_⟩
        refine ⟨_, rfl, true, rfl, ?_⟩
        refine iteT ?_
        refine ⟨_, rfl, _, _, .type "bool", _, true, rfl, .ty _, .base (.bl _), kit_ty (by decide +kernel), _, rfl, _, _, .type "bool", _, true, rfl, .ty _, .base (.bl _), kit_ty (by decide +kernel), rfl, true, rfl, ?_⟩
        refine iteT ?_
        refine ⟨_, rfl, _, rfl, rfl, ?_⟩
        rw [bl_self]
        exact k _ (same_new ntp)
      | .str z, _ =>
        refine ⟨_, rfl, (by show 2 ≤ sizeLine; decide), fun tp ntp => ⟨_, tp, _, .type "str", [.type "list", .type "tuple"], false, rfl, upd_same, .cons (.ty _) (.cons (.ty _) .nil), .base (.str _), any_lt (b := false) (c := false) (kit_ty (by decide +kernel)) (kit_ty (by decide +kernel)) rfl, _, rfl, ?_⟩⟩
        refine iteF ?_
        refine ⟨_, rfl, _, _, .type "str", _, false, rfl, .ty _, .base (.str _), kit_ty (by decide +kernel), _, rfl, ?_⟩
        refine iteF ?_
        refine ⟨_, rfl, _, _, .type "str", _, false, rfl, .ty _, .base (.str _), kit_ty (by decide +kernel), _, rfl, _, _, .type "str", _, false, rfl, .ty _, .base (.str _), kit_ty (by decide +kernel), rfl, ?_⟩
        refine ⟨_, rfl, true, rfl, ?_⟩
        refine iteT ?_
        refine ⟨_, rfl, _, _, .type "str", _, false, rfl, .ty _, .base (.str _), kit_ty (by decide +kernel), _, rfl, _, _, .type "str", _, false, rfl, .ty _, .base (.str _), kit_ty (by decide +kernel), rfl, true, rfl, ?_⟩
        refine iteT ?_
        refine ⟨_, rfl, _, rfl, rfl, ?_⟩
        rw [bl_self]
        exact k _ (same_new ntp)
      | .non, _ =>
        refine ⟨_, rfl, (by show 2 ≤ sizeLine; decide), fun tp ntp => ⟨_, tp, _, .type "NoneType", [.type "list", .type "tuple"], false, rfl, upd_same, .cons (.ty _) (.cons (.ty _) .nil), .base (.non), any_lt (b := false) (c := false) (kit_ty (by decide +kernel)) (kit_ty (by decide +kernel)) rfl, _, rfl, ?_⟩⟩
        refine iteF ?_
        refine ⟨_, rfl, _, _, .type "NoneType", _, false, rfl, .ty _, .base (.non), kit_ty (by decide +kernel), _, rfl, ?_⟩
        refine iteF ?_
        refine ⟨_, rfl, _, _, .type "NoneType", _, false, rfl, .ty _, .base (.non), kit_ty (by decide +kernel), _, rfl, _, _, .type "NoneType", _, false, rfl, .ty _, .base (.non), kit_ty (by decide +kernel), rfl, ?_⟩
        refine ⟨_, rfl, true, rfl, ?_⟩
        refine iteT ?_
        refine ⟨_, rfl, _, _, .type "NoneType", _, false, rfl, .ty _, .base (.non), kit_ty (by decide +kernel), _, rfl, _, _, .type "NoneType", _, false, rfl, .ty _, .base (.non), kit_ty (by decide +kernel), rfl, true, rfl, ?_⟩
        refine iteT ?_
        refine ⟨_, rfl, _, rfl, rfl, ?_⟩
        rw [bl_self]
        exact k _ (same_new ntp)
    · have hlen : xs.length = ys.length := Paired.length h5
      refine ⟨_, rfl, (by show 2 ≤ sizeLine; decide), fun tp ntp => ?_⟩
      have t3 := same_new (o := .tup [.ty "list", .ty "tuple"]) ntp _ _ h3
      have t4 := same_new (o := .tup [.ty "list", .ty "tuple"]) ntp _ _ h4
      refine ⟨_, tp, _, .type "list", [.type "list", .type "tuple"], true, rfl, upd_same, .cons (.ty _) (.cons (.ty _) .nil), .base (.lst t3), any_lt (b := true) (c := false) (kit_ty (by decide +kernel)) (kit_ty (by decide +kernel)) rfl, _, rfl, ?_⟩
      refine iteT ?_
      refine ⟨_, rfl, _, _, .type "list", _, true, rfl, .ty _, .base (.lst t4), kit_ty (by decide +kernel), _, rfl, _, _, .type "list", _, true, rfl, .ty _, .base (.lst t3), kit_ty (by decide +kernel), rfl, true, rfl, ?_⟩
      refine iteT ?_
      refine ⟨_, rfl, _, _, .type "list", _, false, rfl, .ty _, .base (.lst t4), kit_ty (by decide +kernel), _, rfl, _, _, .type "list", _, false, rfl, .ty _, .base (.lst t3), kit_ty (by decide +kernel), rfl, ?_⟩
      refine ⟨_, rfl, true, rfl, ?_⟩
      refine iteT ?_
      refine ⟨_, rfl, _, xs.length, rfl, Or.inl ⟨_, SqL.of t3, rfl⟩, _, rfl, _, ys.length, rfl, Or.inl ⟨_, SqL.of t4, rfl⟩, rfl, true, by rw [hlen]; exact bl_self _, ?_⟩
      refine iteT ?_
      refine ⟨_, rfl, _, rfl, a, b, xs, ys, rfl, .inl ⟨SqL.of t3, SqL.of t4, fun D hD => ?_⟩⟩
      refine lc_it (walk_zip (xs := xs) (ys := ys) (n := xs.length) (by omega)) (fun i H3 => H3 D = some (.lst ((List.replicate i true).map V.bl)) ∧ Same (upd H tp (.tup [.ty "list", .ty "tuple"])) H3) ?_ ?_ ?_ ?_
      · exact ⟨upd_same, same_new hD⟩
      · rintro i H3 hi ⟨q5, s5⟩
        exact ⟨SqL.of (s5 _ _ t3), SqL.of (s5 _ _ t4)⟩
      · rintro i v H3 H4 hi ⟨q5, s5⟩ ⟨t, x, y, rfl, nt, rfl, ex, ey⟩
        refine ⟨t, [x, y], rfl, SqT.of upd_same, rfl, _, _, rfl, _, _, rfl, rfl, rfl, ?_⟩
        refine ⟨_, rfl, _, rfl, B, x, y, rfl, (paired_get h5 ex ey).to (fun c o _ e => same_new nt _ _ (s5 _ _ (same_new ntp _ _ e))), fun H5 s6 => ?_⟩
        have q6 := s6 _ _ (same_new nt _ _ q5)
        refine ⟨_, q6, ?_, ?_, fun c o e => ?_⟩
        · rw [List.length_map, List.length_replicate]
          exact len_ok (by omega)
        · rw [upd_same, List.replicate_succ', List.map_append]
          rfl
        · rw [upd_ne (ne_of_none e hD)]
          exact s6 _ _ (same_new nt _ _ (s5 _ _ e))
      · rintro H3 ⟨q5, s5⟩
        refine ⟨D, List.replicate xs.length true, rfl, SqL.of q5, ?_⟩
        rw [all_rep]
        exact k _ fun c o e => s5 _ _ (same_new ntp _ _ e)
    · have hlen : xs.length = ys.length := Paired.length h5
      refine ⟨_, rfl, (by show 2 ≤ sizeLine; decide), fun tp ntp => ?_⟩
      have t3 := same_new (o := .tup [.ty "list", .ty "tuple"]) ntp _ _ h3
      have t4 := same_new (o := .tup [.ty "list", .ty "tuple"]) ntp _ _ h4
      refine ⟨_, tp, _, .type "tuple", [.type "list", .type "tuple"], true, rfl, upd_same, .cons (.ty _) (.cons (.ty _) .nil), .base (.tup t3), any_lt (b := false) (c := true) (kit_ty (by decide +kernel)) (kit_ty (by decide +kernel)) rfl, _, rfl, ?_⟩
      refine iteT ?_
      refine ⟨_, rfl, _, _, .type "tuple", _, false, rfl, .ty _, .base (.tup t4), kit_ty (by decide +kernel), _, rfl, _, _, .type "tuple", _, false, rfl, .ty _, .base (.tup t3), kit_ty (by decide +kernel), rfl, true, rfl, ?_⟩
      refine iteT ?_
      refine ⟨_, rfl, _, _, .type "tuple", _, true, rfl, .ty _, .base (.tup t4), kit_ty (by decide +kernel), _, rfl, _, _, .type "tuple", _, true, rfl, .ty _, .base (.tup t3), kit_ty (by decide +kernel), rfl, ?_⟩
      refine ⟨_, rfl, true, rfl, ?_⟩
      refine iteT ?_
      refine ⟨_, rfl, _, xs.length, rfl, Or.inr ⟨_, SqT.of t3, rfl⟩, _, rfl, _, ys.length, rfl, Or.inr ⟨_, SqT.of t4, rfl⟩, rfl, true, by rw [hlen]; exact bl_self _, ?_⟩
      refine iteT ?_
      refine ⟨_, rfl, _, rfl, a, b, xs, ys, rfl, .inr ⟨SqT.of t3, SqT.of t4, fun D hD => ?_⟩⟩
      refine lc_it (walk_zipT (xs := xs) (ys := ys) (n := xs.length) rfl hlen) (fun i H3 => H3 D = some (.lst ((List.replicate i true).map V.bl)) ∧ Same (upd H tp (.tup [.ty "list", .ty "tuple"])) H3) ?_ ?_ ?_ ?_
      · exact ⟨upd_same, same_new hD⟩
      · rintro i H3 hi ⟨q5, s5⟩
        exact ⟨SqT.of (s5 _ _ t3), SqT.of (s5 _ _ t4)⟩
      · rintro i v H3 H4 hi ⟨q5, s5⟩ ⟨t, x, y, rfl, nt, rfl, ex, ey⟩
        refine ⟨t, [x, y], rfl, SqT.of upd_same, rfl, _, _, rfl, _, _, rfl, rfl, rfl, ?_⟩
        refine ⟨_, rfl, _, rfl, B, x, y, rfl, (paired_get h5 ex ey).to (fun c o _ e => same_new nt _ _ (s5 _ _ (same_new ntp _ _ e))), fun H5 s6 => ?_⟩
        have q6 := s6 _ _ (same_new nt _ _ q5)
        refine ⟨_, q6, ?_, ?_, fun c o e => ?_⟩
        · rw [List.length_map, List.length_replicate]
          exact len_ok (by omega)
        · rw [upd_same, List.replicate_succ', List.map_append]
          rfl
        · rw [upd_ne (ne_of_none e hD)]
          exact s6 _ _ (same_new nt _ _ (s5 _ _ e))
      · rintro H3 ⟨q5, s5⟩
        refine ⟨D, List.replicate xs.length true, rfl, SqL.of q5, ?_⟩
        rw [all_rep]
        exact k _ fun c o e => s5 _ _ (same_new ntp _ _ e)
    · refine ⟨_, rfl, (by show 2 ≤ sizeLine; decide), fun tp ntp => ?_⟩
      have s0 := same_new (o := .tup [.ty "list", .ty "tuple"]) ntp
      have t3 := s0 _ _ h3
      have t4 := s0 _ _ h4
      refine ⟨_, tp, _, .type "dict", [.type "list", .type "tuple"], false, rfl, upd_same, .cons (.ty _) (.cons (.ty _) .nil), .base (.dT t3), any_lt (b := false) (c := false) (kit_ty (by decide +kernel)) (kit_ty (by decide +kernel)) rfl, _, rfl, ?_⟩
      refine iteF ?_
      refine ⟨_, rfl, _, _, .type "dict", _, true, rfl, .ty _, .base (.dT t3), kit_ty (by decide +kernel), _, rfl, ?_⟩
      refine iteT ?_
      refine ⟨_, rfl, _, _, .type "dict", _, true, rfl, .ty _, .base (.dT t4), kit_ty (by decide +kernel), true, rfl, ?_⟩
      refine iteT ?_
      refine ⟨_, rfl, a, u, rfl, .inl t3, fun p1 bs n1 k1 => ⟨_, rfl, b, l, rfl, .inl (same_new n1 _ _ t4), fun p2 cs n2 k2 => ?_⟩⟩
      have s1 := same_new (o := .lst (bs.map V.ref)) n1
      have s2 := same_new (o := .lst (cs.map V.ref)) n2
      obtain ⟨j, rfl⟩ : ∃ j, m = j + 2 := ⟨m - 2, by omega⟩
      refine ⟨[], _, _, rfl, .inr (.inl ⟨p1, p2, bs.map V.ref, cs.map V.ref, rfl, rfl, by simp, by simp, s2 _ _ upd_same, upd_same, keys_ex (fun c o e => s2 _ _ (s1 _ _ e)) (fun c o e => s2 _ _ e) h5 k1 k2, by rw [List.length_map, keys_len k1]; exact h6⟩), fun H5 s5 => ?_⟩
      have sA : ∀ c o, H c = some o → H5 c = some o := fun c o e => s5 _ _ (s2 _ _ (s1 _ _ (s0 _ _ e)))
      clear s5 s2 s1 n2 n1 k1 k2 t3 t4 s0
      refine ⟨_, rfl, true, rfl, ?_⟩
      refine iteT ?_
      refine ⟨a, .dT u, sA _ _ h3, trivial, fun od => ?_⟩
      refine ⟨_, rfl, a, od, rfl, .inr ⟨u, upd_same, fun D hD => ?_⟩⟩
      have nDa : D ≠ a := fun z => by
        rw [z, upd_same] at hD
        cases hD
      refine lc_it (walk_keysT (d := a) (o := od) (kvs := u)) (fun i H6 => H6 D = some (.lst ((List.replicate i true).map V.bl)) ∧ Same (upd H5 a (.frz od (.dT u))) H6) ?_ ?_ ?_ ?_
      · exact ⟨upd_same, same_new hD⟩
      · rintro i H6 hi ⟨q6, s6⟩
        exact s6 _ _ upd_same
      · rintro i v H6 H7 hi ⟨q6, s6⟩ ⟨rfl, kk, vv, q, ei, rfl, eq⟩
        obtain ⟨⟨kk2, ww⟩, el, hk, _, hx⟩ := paired_at' h5 ei
        cases hk
        have g1 : valV u kk = some vv := valV_at h8 ei
        have g2 : valV l kk = some ww := valV_at (by rw [← keys_same h5]; exact h8) el
        have hb6 : H7 b = some (.dT l) := s6 _ _ ((upd_ne h0.symm).trans (sA _ _ h4))
        refine ⟨rfl, ?_⟩
        refine ⟨_, rfl, _, rfl, a, vv, rfl, .inr ⟨u, kk, q, .inr ⟨od, s6 _ _ upd_same⟩, rfl, eq, g1.symm⟩, _, rfl, _, rfl, b, ww, rfl, .inr ⟨l, kk, q, .inl hb6, rfl, eq, g2.symm⟩, a :: B, vv, ww, rfl, hx.to (fun c o hc e => ?_), fun H8 s8 => ?_⟩
        · exact s6 _ _ ((upd_ne (fun z => hc (by rw [z]; exact List.mem_cons_self))).trans (sA _ _ e))
        · have q8 := s8 _ _ q6
          refine ⟨_, q8, ?_, ?_, fun c o e => ?_⟩
          · rw [List.length_map, List.length_replicate]
            exact len_ok (by omega)
          · rw [upd_same, List.replicate_succ', List.map_append]
            rfl
          · rw [upd_ne (ne_of_none e hD)]
            exact s8 _ _ (s6 _ _ e)
      · rintro H6 ⟨q6, s6⟩
        refine ⟨s6 _ _ upd_same, D, List.replicate u.length true, rfl, SqL.of ((upd_ne nDa).trans q6), ?_⟩
        rw [all_rep]
        refine k _ fun c o e => ?_
        by_cases ca : c = a
        · rw [ca] at e ⊢
          rw [h3] at e
          cases e
          exact upd_same
        · exact (upd_ne ca).trans (s6 _ _ ((upd_ne ca).trans (sA _ _ e)))
theorem exact_all (F : FnP K "_law_exact" sExact f fd) (T : Nm mg) (T6 : Nm6 mg) (bE : Binds K fd ["_law_mine", "_law_theirs"] []) (kE : PySem.W.keepIn K (.ref f) = true) (gE : mg "_law_exact" = some (.ref f)) : ∀ n : Nat, FnOk P w K mg base CX0 n f fd ["_law_mine", "_law_theirs"] (spExact K n)
  | 0 => ⟨fun _ _ _ _ h => h.elim, fun _ _ _ _ _ _ _ _ _ _ _ _ _ h => h.elim⟩
  | n + 1 => ok_exact F T T6 bE kE gE (exact_all F T T6 bE kE gE n)
end
end Yt

set_option Elab.async false
set_option linter.all false
set_option maxRecDepth 100000
set_option maxHeartbeats 2000000
namespace Yt
open PySem PySem.Spec PyProof.Rows L2
/-! ### list(z), z a text -/
def signsOf (z : Str) : List V := z.cps.toList.map fun c => V.str ⟨#[c]⟩
theorem vals_get : ∀ {l : List V} {its : List Value}, l.length = its.length → (∀ (j : Nat) (x : V) (v : Value), l[j]? = some x → its[j]? = some v → RelV x v) → Vals l its
  | [], [], _, _ => .nil
  | x :: l, v :: its, h, k => .cons (k 0 x v rfl rfl) (vals_get (by simpa using h) fun j y u hy hu => k (j + 1) y u (by simpa using hy) (by simpa using hu))
theorem call_list_text {X : Cx} (calm : X.calm = true) : CallR X (.type "list") (fun xs H Q => ∃ z : Str, xs = [.str z] ∧ z.cps.size ≤ 1000 ∧ ∀ l, H l = none → Q (.ref l) (upd H l (.lst (signsOf z)))) := by
  intro pins s σ H xs us Q I r h
  obtain ⟨z, rfl, few, q⟩ := h
  obtain ⟨u, rfl, rx⟩ := vals1 r
  obtain ⟨t, rfl⟩ := rx
  have hz : z.cps.size ≤ sizeLine := by
    rw [sizeLine_eq]
    omega
  refine PySem.call_list_str (I.ok.hd calm) z t (fun h2 tk acc c keep ho items => ?_) hz
  have len : (signsOf z).length = acc.toList.length := by
    unfold signsOf
    rw [List.length_map, Array.length_toList, Array.length_toList, items.1]
  have vals : Vals (signsOf z) acc.toList := vals_get len fun j x v hx hv => by
    obtain ⟨d, t2, e1, e2⟩ := items.2 j v (by rw [← Array.getElem?_toList]; exact hv)
    unfold signsOf at hx
    rw [List.getElem?_map, Array.getElem?_toList, e1] at hx
    cases Option.some.inj hx
    exact ⟨t2, e2⟩
  refine ⟨.ref s.heap.objs.size, _, I.laid (t' := tk) keep (Nat.le_refl _) (show ObjOk X.prog X.w _ h2 _ (.lst (signsOf z)) from ⟨?_, acc.toList, c, vals, ?_⟩), rfl, q _ (I.hok.fresh (Nat.le_refl _))⟩
  · unfold signsOf
    rw [List.length_map, Array.length_toList]
    exact hz
  · simpa using ho
end Yt

set_option Elab.async false
set_option linter.all false
set_option maxRecDepth 100000
set_option maxHeartbeats 2000000
namespace Yt
open PySem PySem.Spec PyProof.Rows L2
/-! ### words one beside the other -/
theorem str_tl (i j : Str) : (i ++ j).cps.toList = i.cps.toList ++ j.cps.toList := Array.toList_append
theorem nodup_le {α : Type} [DecidableEq α] : ∀ {l D : List α}, l.Nodup → (∀ x ∈ l, x ∈ D) → l.length ≤ D.length
  | [], _, _, _ => Nat.zero_le _
  | x :: l, D, nd, h => by
    have nd' := List.nodup_cons.mp nd
    have hx : x ∈ D := h x List.mem_cons_self
    have := nodup_le (l := l) (D := D.erase x) nd'.2 fun y hy => (List.mem_erase_of_ne (fun (e : y = x) => nd'.1 (by rw [← e]; exact hy))).mpr (h y (List.mem_cons_of_mem _ hy))
    rw [List.length_erase_of_mem hx] at this
    have := List.length_pos_of_mem hx
    rw [List.length_cons]
    omega
/-- a word with one sign changed is a word -/
theorem word_bent {z : Str} {c : Nat} {s : Int} (h : WordOk z) (hc : 97 ≤ c ∧ c ≤ 122) (s0 : 0 ≤ s) (s1 : s < z.length) : WordOk (cutS z none (some s) ++ (⟨#[c]⟩ : Str) ++ cutS z (some (s + 1)) none) := by
  obtain ⟨k, rfl⟩ : ∃ k : Nat, s = k := ⟨s.toNat, (Int.toNat_of_nonneg s0).symm⟩
  have hk : k < z.length := by omega
  have e1 : HT.sIx z.length z.length (some (k : Int)) = k := by
    rw [HT.sIx_nat]
    omega
  have e2 : HT.sIx z.length 0 (some ((k : Int) + 1)) = k + 1 := by
    rw [show ((k : Int) + 1) = ((k + 1 : Nat) : Int) by omega, HT.sIx_nat]
    omega
  have t1 : (cutS z none (some (k : Int))).cps.toList = z.cps.toList.take k := by
    unfold cutS
    rw [e1, HT.sIx_none]
    simp
  have t2 : (cutS z (some ((k : Int) + 1)) none).cps.toList = z.cps.toList.drop (k + 1) := by
    unfold cutS
    rw [e2, HT.sIx_none]
    show (z.cps.toList.drop (k + 1)).take (z.cps.size - (k + 1)) = _
    rw [List.take_of_length_le]
    rw [List.length_drop, Array.length_toList]
    exact Nat.le_refl _
  have tt : (cutS z none (some (k : Int)) ++ (⟨#[c]⟩ : Str) ++ cutS z (some ((k : Int) + 1)) none).cps.toList = z.cps.toList.take k ++ [c] ++ z.cps.toList.drop (k + 1) := by
    rw [str_tl, str_tl, t1, t2]
  have len : (cutS z none (some (k : Int)) ++ (⟨#[c]⟩ : Str) ++ cutS z (some ((k : Int) + 1)) none).length = z.length := by
    show (_ : Array Nat).size = z.cps.size
    rw [← Array.length_toList, tt]
    have hk' : k < z.cps.size := hk
    simp only [List.length_append, List.length_take, List.length_drop, Array.length_toList, List.length_cons, List.length_nil]
    omega
  refine ⟨by rw [len]; exact h.1, fun d hd => ?_⟩
  rw [tt] at hd
  rcases List.mem_append.mp hd with hd | hd
  · rcases List.mem_append.mp hd with hd | hd
    · exact h.2 d (List.mem_of_mem_take hd)
    · rw [List.mem_singleton.mp hd]
      exact hc
  · exact h.2 d (List.mem_of_mem_drop hd)
def sign (c : Nat) : Str := ⟨#[c]⟩
theorem sign_word {c : Nat} (h : 97 ≤ c ∧ c ≤ 122) : WordOk (sign c) := ⟨⟨Nat.le_refl _, by show 1 ≤ 8; decide⟩, fun d hd => by
  have : d ∈ [c] := hd
  rw [List.mem_singleton.mp this]
  exact h⟩
theorem sign_inj {c d : Nat} (h : sign c = sign d) : c = d := by
  have : #[c] = #[d] := congrArg Str.cps h
  simpa using this
/-- some letter is free -/
theorem letter_free {ws : List Str} (h : ws.length < 26) : ∃ c ∈ abc.cps.toList, sign c ∉ ws := by
  by_cases e : ∃ c ∈ abc.cps.toList, sign c ∉ ws
  · exact e
  · exfalso
    have all : ∀ x ∈ abc.cps.toList.map sign, x ∈ ws := fun x hx => by
      obtain ⟨c, hc, rfl⟩ := List.mem_map.mp hx
      by_cases q : sign c ∈ ws
      · exact q
      · exact absurd ⟨c, hc, q⟩ e
    have nd : (abc.cps.toList.map sign).Nodup := by decide +kernel
    have := nodup_le nd all
    rw [List.length_map] at this
    have l26 : abc.cps.toList.length = 26 := by decide +kernel
    omega
theorem inV_str (z : Str) : ∀ ws : List Str, inV (.str z) (ws.map V.str) = decide (z ∈ ws)
  | [] => by simp [inV]
  | y :: ws => by
    have := inV_str z ws
    unfold inV at this ⊢
    rw [List.map_cons, List.any_cons, this]
    show ((y == z) || _) = _
    by_cases e : y = z
    · subst e
      simp
    · have e' : ¬ z = y := fun q => e q.symm
      simp [e, e']
theorem flat_strs' (ys : List Str) : (ys.map V.str).all flatV = true := by
  rw [List.all_map]
  exact List.all_eq_true.mpr fun _ _ => rfl
def spWords : Sp := fun vs H Q _ => ∃ (p : Addr) (f : Nat) (m : Int), vs = [.ref p, .int m] ∧ 1 ≤ m ∧ m ≤ 20 ∧ PurseAt H p (f + 12 + 11 * m.toNat) ∧
  ∀ (L : Addr) (ws : List Str) (H' : Hp), ws.length = m.toNat → ws.Nodup → (∀ z ∈ ws, WordOk z) → H L = none → H' L = some (.lst (ws.map V.str)) → PurseAt H' p f → But p H H' → Q (.ref L) H'
section
variable {P : Program} {w : World} {K : PySem.W.Frag} {mg : Str → Option Value} {base : Heap} {f : Addr} {fd : FuncData}
theorem scWords : FnScope ["_law_purse_here", "_law_many", "_law_base", "_law_near", "_law_spot", "_law_found", "_law_spin", "_law_word_here", "_law_letter"] ["_law_purse_here", "_law_many"] (defScope sWords) := ⟨rfl, rfl, rfl, by decide +kernel, rfl, by decide +kernel, by decide +kernel⟩
theorem ok_words {fD fW : Addr} {fdD fdW : FuncData} (F : FnP K "_law_words" sWords f fd) (T : Nm mg) (T6 : Nm6 mg) (GD : FnOk P w K mg base CX0 2 fD fdD ["_law_purse_here", "_law_many"] spDraw) (bD : Binds K fdD ["_law_purse_here", "_law_many"] []) (kD : PySem.W.keepIn K (.ref fD) = true) (gD : mg "_law_draw" = some (.ref fD))
    (GW : FnOk P w K mg base CX0 3 fW fdW ["_law_purse_here"] spWord) (bW : Binds K fdW ["_law_purse_here"] []) (kW : PySem.W.keepIn K (.ref fW) = true) (gW : mg "_law_word" = some (.ref fW)) :
    FnOk P w K mg base CX0 4 f fd ["_law_purse_here", "_law_many"] spWords := by
  refine F.ok scWords (fun vs H Q E h => ?_) (fun cdv A outer s H vs Q E hr h => ?_)
  · obtain ⟨p, g, m, rfl, _⟩ := h
    rfl
  · obtain ⟨p, g, m, rfl, m1, m2, hP, k⟩ := h
    refine ⟨_, PSs.nox (pss_cons (ps_par (i := 2) (j := 3) rfl scWords.nd rfl rfl (by decide) rfl rfl (pa_cons (pe_call GW hr rfl gW kW bW .nil pass0 (pa_cons (pv 0) pa_nil)) (pa_cons (pe_cmpR op_eq (pe_call GD (hr.mono (by decide)) rfl gD kD bD .nil pass0 (pa_cons (pv 0) (pa_cons pe_int pa_nil))) pe_int (nomark _)) pa_nil)) rfl)
      (pss_cons (ps_asg (pe_tup (pa_cons (pe_call GD (hr.mono (by decide)) rfl gD kD bD .nil pass0 (pa_cons (pv 0) (pa_cons (pe_callB call_len (by rfl) T.len PySem.boot_len (pa_cons (pv 2) pa_nil)) pa_nil))) (pa_cons (pe_lst pa_nil) pa_nil))) (pg_tup rfl (pgs_cons (pg_name (i := 4) scWords.nd rfl (Or.inl rfl)) (pgs_cons (pg_name (i := 5) scWords.nd rfl (Or.inr rfl)) pgs_nil))))
      (pss_cons (ps_for PassesOwn.never rfl (pi_range1 rfl T.range (pa_cons (pv 1) pa_nil)) (pg_name (i := 6) scWords.nd rfl (Or.inl rfl))
        (pss_cons (ps_set (i := 7) scWords.nd rfl (Or.inl rfl) (pe_op op_add_str (pe_op op_add_str (pe_slice sl_str (pv 2) po_none (po_some (pv 4))) (pe_ix ix_str pe_str (pe_call GD (hr.mono (by decide)) rfl gD kD bD .nil pass0 (pa_cons (pv 0) (pa_cons pe_int pa_nil))) (fun _ _ => rfl))) (pe_slice sl_str (pv 2) (po_some (pe_op op_add (pv 4) pe_int)) po_none)))
        (pss_cons (ps_if (pt_not (pt_val (pv 3))) (pss_one (ps_set (i := 7) scWords.nd rfl (Or.inl rfl) (pe_call GW hr rfl gW kW bW .nil pass0 (pa_cons (pv 0) pa_nil)))) pss_nil)
        (pss_cons (ps_if (pt_cmpR op_in_seq (pv 7) (pv 5) (by rfl)) (pss_one (ps_set (i := 7) scWords.nd rfl (Or.inl rfl) (pe_ix ix_list (pe_lc (own := [("_law_letter", 8)]) (g := gName 8) (tt := tTest (tOp (rIn K true) (tVar 8) (tVar 5))) (te := tVar 8) rfl scWords.nd (pi_list (pe_callTy (call_list_text rfl) (by rfl) T6.list (by decide +kernel) (pa_cons pe_str pa_nil))) (blkOk_by (own := [("_law_letter", 8)]) (N := ["_law_purse_here", "_law_many", "_law_base", "_law_near", "_law_spot", "_law_found", "_law_spin", "_law_word_here", "_law_letter"]) (sc := defScope sWords) (by decide +kernel))
            (fun _ _ _ _ _ => pg_name (i := 8) scWords.nd rfl (Or.inl rfl)) (fun _ _ _ _ _ => pts_one (pt_cmpR op_notIn_seq (pv 8) (pv 5) (by rfl))) (fun _ _ _ _ _ => pv 8)) pe_int (fun _ _ => rfl)))) pss_nil)
        (pss_one (ps_expr (pe_bm PySem.F.plainAttrs_list PySem.F.slot_list_append PySem.F.type_list_append mt_append (pv 5) (pa_cons (pv 7) pa_nil))))))))
      (pss_one (ps_ret (pv 5)))))), ?_⟩
    refine ⟨_, rfl, p, g + 2 + 11 * m.toNat, rfl, hP.less (by omega), fun z H1 hz hP1 hB1 => ⟨_, rfl, p, g + 1 + 11 * m.toNat, 3, rfl, hP1.less (by omega), ⟨by decide, by decide⟩, fun r H2 r0 r1 hP2 hB2 => ⟨rfl, _, _, rfl, ?_⟩⟩⟩
    have zl : z.length ≤ sizeLine := by
      have := hz.1
      rw [sizeLine_eq]
      omega
    refine ⟨_, rfl, _, rfl, _, z.length, rfl, ⟨zl, rfl⟩, p, g + 11 * m.toNat, (z.length : Int), rfl, hP2.less (by omega), ⟨by have := hz.1; omega, by have := hz.1; omega⟩, fun s0 H3 s1 s2 hP3 hB3 => ⟨(by show 0 ≤ sizeLine; decide), fun L nL => ⟨(by show 2 ≤ sizeLine; decide), fun tp ntp => ⟨tp, _, rfl, SqT.of upd_same, rfl, _, _, rfl, _, _, rfl, rfl, ?_⟩⟩⟩⟩
    generalize hnear : decide (V.int r = V.int 0) = near
    have B3 : But p H H3 := fun b o n e => hB3 _ _ n (hB2 _ _ n (hB1 _ _ n e))
    have Lp : L ≠ p := fun q => by
      obtain ⟨o, e⟩ := hP3.some
      rw [q, e] at nL
      cases nL
    have LH : H L = none := by
      cases e : H L with
      | none => rfl
      | some o =>
        rw [B3 _ _ Lp e] at nL
        cases nL
    have sL := same_new (o := .lst []) nL
    have sT := same_new (o := .tup [V.int s0, V.ref L]) ntp
    refine ⟨_, rfl, _, rfl, by omega, by omega, for_range (lo := 0) (n := m.toNat) (fun i σ Hc => ∃ (v6 v7 v8 : Option V) (ws : List Str), σ = [some (.ref p), some (.int m), some (.str z), some (.bl near), some (.int s0), some (.ref L), v6, v7, v8] ∧ ws.length = i ∧ ws.Nodup ∧ (∀ y ∈ ws, WordOk y) ∧ Hc L = some (.lst (ws.map V.str)) ∧ PurseAt Hc p (g + 11 * (m.toNat - i)) ∧ But p H Hc)
      ⟨none, none, none, [], rfl, rfl, .nil, fun y hy => (by cases hy), sT _ _ upd_same, ?_, fun b o n e => sT _ _ (sL _ _ (B3 b o n e))⟩ ?_ ?_⟩
    · rw [Nat.sub_zero]
      exact hP3.to fun o e => sT _ _ (sL _ _ e)
    · rintro i σ Hc hi ⟨v6, v7, v8, ws, rfl, hl, hnd, hws, Lc, Pc, Bc⟩
      have ef : g + 11 * (m.toNat - i) = g + 11 * (m.toNat - (i + 1)) + 11 := by omega
      rw [ef] at Pc
      refine ⟨_, rfl, _, rfl, _, rfl, z, rfl, zl, _, rfl, p, g + 11 * (m.toNat - (i + 1)) + 10, 26, rfl, Pc.less (by omega), ⟨by decide, by decide⟩, fun r3 H4 r30 r31 hP4 hB4 => ?_⟩
      obtain ⟨c, hc, hc1⟩ := abc_at r30 r31
      have lz := hz.1
      have cz := cutS_length z none (some s0)
      have cz2 := cutS_length z (some (s0 + 1)) none
      refine ⟨_, _, c, rfl, rfl, (by show 26 ≤ sizeLine; decide), hc, _, _, rfl, rfl, ?_, _, rfl, _, rfl, _, _, rfl, rfl, _, rfl, z, rfl, zl, _, _, rfl, rfl, ?_, ?_⟩
      · show (cutS z none (some s0)).length + 1 ≤ sizeLine
        rw [sizeLine_eq]
        omega
      · show (cutS z none (some s0) ++ (⟨#[c]⟩ : Str)).length + (cutS z (some (s0 + 1)) none).length ≤ sizeLine
        have : (cutS z none (some s0) ++ (⟨#[c]⟩ : Str)).length = (cutS z none (some s0)).length + 1 := by
          show (_ : Array Nat).size = _
          rw [← Array.length_toList, str_tl, List.length_append, Array.length_toList]
          rfl
        rw [this, sizeLine_eq]
        omega
      have hz1 := word_bent hz hc1 s1 (by omega)
      generalize (cutS z none (some s0) ++ (⟨#[c]⟩ : Str) ++ cutS z (some (s0 + 1)) none) = z1 at hz1 ⊢
      have Lc4 := hB4 _ _ Lp Lc
      have Bc4 : But p H H4 := fun b o n e => hB4 _ _ n (Bc b o n e)
      have wlen : (ws.map V.str).length < sizeLine := by
        rw [List.length_map]
        exact len_ok (by omega)
      have last : ∀ (y : Str) (H9 : Hp), WordOk y → y ∉ ws → H9 L = some (.lst (ws.map V.str)) → PurseAt H9 p (g + 11 * (m.toNat - (i + 1))) → But p H H9 →
          (ws ++ [y]).length = i + 1 ∧ (ws ++ [y]).Nodup ∧ (∀ q ∈ ws ++ [y], WordOk q) ∧ (upd H9 L (.lst (ws.map V.str ++ [V.str y]))) L = some (.lst ((ws ++ [y]).map V.str)) ∧ PurseAt (upd H9 L (.lst (ws.map V.str ++ [V.str y]))) p (g + 11 * (m.toNat - (i + 1))) ∧ But p H (upd H9 L (.lst (ws.map V.str ++ [V.str y]))) := by
        intro y H9 hy hn e9 P9 B9
        refine ⟨by rw [List.length_append, hl] <;> rfl, ?_, fun q hq => ?_, by rw [upd_same, List.map_append] <;> rfl, P9.to fun o e => (upd_ne Lp.symm).trans e, fun b o n e => (upd_ne (ne_of_none e LH)).trans (B9 b o n e)⟩
        · refine List.nodup_append.mpr ⟨hnd, by simp, fun a ha b hb e => hn ?_⟩
          rw [← List.mem_singleton.mp hb, ← e]
          exact ha
        · rcases List.mem_append.mp hq with h | h
          · exact hws q h
          · rw [List.mem_singleton.mp h]
            exact hy
      clear Lc Pc Bc
      cases near with
      | true =>
        refine ⟨_, rfl, true, rfl, ?_⟩
        refine iteF ?_
        have Lc := Lc4
        have Bc := Bc4
        have Pc : PurseAt H4 p (g + 11 * (m.toNat - (i + 1))) := hP4.less (by omega)
        refine ⟨_, rfl, _, rfl, L, _, rfl, .inl (SqL.of Lc), rfl, flat_strs' ws, _, rfl, ?_⟩
        show (if inV (V.str z1) (ws.map V.str) = true then _ else _)
        rw [inV_str]
        by_cases hin : z1 ∈ ws
        · rw [decide_eq_true hin]
          refine iteT ?_
          refine ⟨abc, rfl, (by show 26 ≤ 1000; decide), fun l1 nl1 => ?_⟩
          have nl1L : l1 ≠ L := (ne_of_none Lc nl1).symm
          have sl := same_new (o := .lst (signsOf abc)) nl1
          refine ⟨l1, rfl, ⟨_, SqL.of upd_same⟩, fun D nD => ?_⟩
          have sd := same_new (o := .lst []) nD
          refine lc_list (K := K) (a := l1) (xs := signsOf abc) (fun i H6 => H6 D = some (.lst (((abc.cps.toList.take i).filter fun c => decide (sign c ∉ ws)).map fun c => V.str (sign c))) ∧ Same (upd H4 l1 (.lst (signsOf abc))) H6) ?_ ?_ ?_ ?_
          · exact ⟨upd_same, sd⟩
          · rintro i2 H6 hi2 ⟨q6, s6⟩
            exact s6.seq (SqL.of upd_same)
          · rintro i2 x H6 hx ⟨q6, s6⟩
            obtain ⟨c, hc, rfl⟩ : ∃ c, abc.cps.toList[i2]? = some c ∧ V.str (sign c) = x := by
              unfold signsOf at hx
              rw [List.getElem?_map] at hx
              exact Option.map_eq_some_iff.mp hx
            have et : abc.cps.toList.take (i2 + 1) = abc.cps.toList.take i2 ++ [c] := by rw [List.take_add_one, hc] <;> rfl
            have L6 := s6 _ _ (sl _ _ Lc)
            refine ⟨rfl, ?_⟩
            refine ⟨_, rfl, _, rfl, L, _, rfl, .inl (SqL.of L6), rfl, flat_strs' ws, _, rfl, ?_⟩
            show (if (!inV (V.str (sign c)) (ws.map V.str)) = true then _ else _)
            rw [inV_str]
            by_cases hcw : sign c ∈ ws
            · rw [decide_eq_true hcw]
              refine iteF ⟨?_, s6⟩
              rw [et, List.filter_append, List.filter_cons_of_neg (by simpa using hcw), List.filter_nil, List.append_nil]
              exact q6
            · rw [decide_eq_false hcw]
              refine iteT ?_
              refine ⟨_, rfl, _, q6, ?_, ?_, fun b o e => ?_⟩
              · rw [List.length_map]
                have h1 : ((abc.cps.toList.take i2).filter fun c => decide (sign c ∉ ws)).length ≤ (abc.cps.toList.take i2).length := List.length_filter_le _ _
                have h2 : (abc.cps.toList.take i2).length ≤ 26 := by
                  rw [List.length_take]
                  exact Nat.min_le_right _ _
                exact len_ok (by omega)
              · rw [upd_same, et, List.filter_append, List.filter_cons_of_pos (by simpa using hcw), List.filter_nil, List.map_append]
                rfl
              · exact (upd_ne (ne_of_none e nD)).trans (s6 _ _ e)
          · rintro H6 ⟨q6, s6⟩
            have full : (abc.cps.toList.take (signsOf abc).length) = abc.cps.toList := List.take_of_length_le (by unfold signsOf; rw [List.length_map]; exact Nat.le_refl _)
            rw [full] at q6
            obtain ⟨c0, hc0, hc1⟩ := letter_free (ws := ws) (by omega)
            have mem0 : c0 ∈ abc.cps.toList.filter fun c => decide (sign c ∉ ws) := List.mem_filter.mpr ⟨hc0, by simpa using hc1⟩
            have good : ∀ d ∈ abc.cps.toList.filter (fun c => decide (sign c ∉ ws)), WordOk (sign d) ∧ sign d ∉ ws := fun d hd => by
              have hd' := List.mem_filter.mp hd
              refine ⟨sign_word ?_, by simpa using hd'.2⟩
              have hall : ∀ c ∈ abc.cps.toList, 97 ≤ c ∧ c ≤ 122 := by decide +kernel
              exact hall d hd'.1
            generalize (abc.cps.toList.filter fun c => decide (sign c ∉ ws)) = fl at q6 mem0 good
            match fl, mem0, q6, good with
            | d :: fl, _, q6, good =>
              obtain ⟨gd1, gd2⟩ := good d List.mem_cons_self
              refine ⟨D, _, 0, V.str (sign d), rfl, rfl, SqL.of q6, atI_nat (j := 0) rfl, ?_⟩
              have L6 := s6 _ _ (sl _ _ Lc)
              exact ⟨_, rfl, .inl ⟨rfl, _, SqL.of L6⟩, _, rfl, _, _, _, rfl, rfl, L6, wlen, _, _, _, ws ++ [sign d], rfl, last (sign d) H6 gd1 gd2 L6 (Pc.to fun o e => s6 _ _ (sl _ _ e)) (fun b o nb e => s6 _ _ (sl _ _ (Bc b o nb e)))⟩
        · rw [decide_eq_false hin]
          refine iteF ?_
          exact ⟨_, rfl, .inl ⟨rfl, _, SqL.of Lc⟩, _, rfl, _, _, _, rfl, rfl, Lc, wlen, _, _, _, ws ++ [z1], rfl, last z1 H4 hz1 hin Lc Pc Bc⟩
      | false =>
        refine ⟨_, rfl, false, rfl, ?_⟩
        refine iteT ?_
        refine ⟨_, rfl, p, g + 11 * (m.toNat - (i + 1)), rfl, hP4, fun z2 H5 hz2 hP5 hB5 => ?_⟩
        have Lc := hB5 _ _ Lp Lc4
        have Bc : But p H H5 := fun b o n e => hB5 _ _ n (Bc4 b o n e)
        have Pc : PurseAt H5 p (g + 11 * (m.toNat - (i + 1))) := hP5
        have hz1 := hz2
        refine ⟨_, rfl, _, rfl, L, _, rfl, .inl (SqL.of Lc), rfl, flat_strs' ws, _, rfl, ?_⟩
        show (if inV (V.str z2) (ws.map V.str) = true then _ else _)
        rw [inV_str]
        by_cases hin : z2 ∈ ws
        · rw [decide_eq_true hin]
          refine iteT ?_
          refine ⟨abc, rfl, (by show 26 ≤ 1000; decide), fun l1 nl1 => ?_⟩
          have nl1L : l1 ≠ L := (ne_of_none Lc nl1).symm
          have sl := same_new (o := .lst (signsOf abc)) nl1
          refine ⟨l1, rfl, ⟨_, SqL.of upd_same⟩, fun D nD => ?_⟩
          have sd := same_new (o := .lst []) nD
          refine lc_list (K := K) (a := l1) (xs := signsOf abc) (fun i H6 => H6 D = some (.lst (((abc.cps.toList.take i).filter fun c => decide (sign c ∉ ws)).map fun c => V.str (sign c))) ∧ Same (upd H5 l1 (.lst (signsOf abc))) H6) ?_ ?_ ?_ ?_
          · exact ⟨upd_same, sd⟩
          · rintro i2 H6 hi2 ⟨q6, s6⟩
            exact s6.seq (SqL.of upd_same)
          · rintro i2 x H6 hx ⟨q6, s6⟩
            obtain ⟨c, hc, rfl⟩ : ∃ c, abc.cps.toList[i2]? = some c ∧ V.str (sign c) = x := by
              unfold signsOf at hx
              rw [List.getElem?_map] at hx
              exact Option.map_eq_some_iff.mp hx
            have et : abc.cps.toList.take (i2 + 1) = abc.cps.toList.take i2 ++ [c] := by rw [List.take_add_one, hc] <;> rfl
            have L6 := s6 _ _ (sl _ _ Lc)
            refine ⟨rfl, ?_⟩
            refine ⟨_, rfl, _, rfl, L, _, rfl, .inl (SqL.of L6), rfl, flat_strs' ws, _, rfl, ?_⟩
            show (if (!inV (V.str (sign c)) (ws.map V.str)) = true then _ else _)
            rw [inV_str]
            by_cases hcw : sign c ∈ ws
            · rw [decide_eq_true hcw]
              refine iteF ⟨?_, s6⟩
              rw [et, List.filter_append, List.filter_cons_of_neg (by simpa using hcw), List.filter_nil, List.append_nil]
              exact q6
            · rw [decide_eq_false hcw]
              refine iteT ?_
              refine ⟨_, rfl, _, q6, ?_, ?_, fun b o e => ?_⟩
              · rw [List.length_map]
                have h1 : ((abc.cps.toList.take i2).filter fun c => decide (sign c ∉ ws)).length ≤ (abc.cps.toList.take i2).length := List.length_filter_le _ _
                have h2 : (abc.cps.toList.take i2).length ≤ 26 := by
                  rw [List.length_take]
                  exact Nat.min_le_right _ _
                exact len_ok (by omega)
              · rw [upd_same, et, List.filter_append, List.filter_cons_of_pos (by simpa using hcw), List.filter_nil, List.map_append]
                rfl
              · exact (upd_ne (ne_of_none e nD)).trans (s6 _ _ e)
          · rintro H6 ⟨q6, s6⟩
            have full : (abc.cps.toList.take (signsOf abc).length) = abc.cps.toList := List.take_of_length_le (by unfold signsOf; rw [List.length_map]; exact Nat.le_refl _)
            rw [full] at q6
            obtain ⟨c0, hc0, hc1⟩ := letter_free (ws := ws) (by omega)
            have mem0 : c0 ∈ abc.cps.toList.filter fun c => decide (sign c ∉ ws) := List.mem_filter.mpr ⟨hc0, by simpa using hc1⟩
            have good : ∀ d ∈ abc.cps.toList.filter (fun c => decide (sign c ∉ ws)), WordOk (sign d) ∧ sign d ∉ ws := fun d hd => by
              have hd' := List.mem_filter.mp hd
              refine ⟨sign_word ?_, by simpa using hd'.2⟩
              have hall : ∀ c ∈ abc.cps.toList, 97 ≤ c ∧ c ≤ 122 := by decide +kernel
              exact hall d hd'.1
            generalize (abc.cps.toList.filter fun c => decide (sign c ∉ ws)) = fl at q6 mem0 good
            match fl, mem0, q6, good with
            | d :: fl, _, q6, good =>
              obtain ⟨gd1, gd2⟩ := good d List.mem_cons_self
              refine ⟨D, _, 0, V.str (sign d), rfl, rfl, SqL.of q6, atI_nat (j := 0) rfl, ?_⟩
              have L6 := s6 _ _ (sl _ _ Lc)
              exact ⟨_, rfl, .inl ⟨rfl, _, SqL.of L6⟩, _, rfl, _, _, _, rfl, rfl, L6, wlen, _, _, _, ws ++ [sign d], rfl, last (sign d) H6 gd1 gd2 L6 (Pc.to fun o e => s6 _ _ (sl _ _ e)) (fun b o nb e => s6 _ _ (sl _ _ (Bc b o nb e)))⟩
        · rw [decide_eq_false hin]
          refine iteF ?_
          exact ⟨_, rfl, .inl ⟨rfl, _, SqL.of Lc⟩, _, rfl, _, _, _, rfl, rfl, Lc, wlen, _, _, _, ws ++ [z2], rfl, last z2 H5 hz1 hin Lc Pc Bc⟩
    · rintro σ Hc ⟨v6, v7, v8, ws, rfl, hl, hnd, hws, Lc, Pc, Bc⟩
      refine ⟨_, rfl, k L ws Hc hl hnd hws LH Lc ?_ Bc⟩
      rw [Nat.sub_self] at Pc
      exact Pc
end
end Yt

set_option Elab.async false
set_option linter.all false
set_option maxRecDepth 100000
set_option maxHeartbeats 2000000
namespace Yt
open PySem PySem.Spec PyProof.Rows L2
/-! ### marks: words that ascend -/
theorem lt_tot : ∀ a b : List Nat, a ≠ b → ltCps b a = false → ltCps a b = true
  | [], [], h, _ => absurd rfl h
  | [], _ :: _, _, _ => rfl
  | _ :: _, [], _, h => by cases h
  | x :: r, y :: t, h, k => by
    simp only [ltCps, Bool.or_eq_false_iff, Bool.and_eq_false_imp, decide_eq_false_iff_not, beq_iff_eq] at k
    simp only [ltCps, Bool.or_eq_true, Bool.and_eq_true, decide_eq_true_eq, beq_iff_eq]
    by_cases e : x = y
    · subst e
      exact .inr ⟨rfl, lt_tot r t (fun q => h (by rw [q])) (k.2 rfl)⟩
    · exact .inl (by have := k.1; omega)
theorem lt_tr : ∀ {a b c : List Nat}, ltCps a b = true → ltCps b c = true → ltCps a c = true
  | [], [], _, h, _ => by cases h
  | [], _ :: _, [], _, h => by cases h
  | [], _ :: _, _ :: _, _, _ => rfl
  | _ :: _, [], _, h, _ => by cases h
  | _ :: _, _ :: _, [], _, h => by cases h
  | x :: r, y :: t, z :: u, h, k => by
    simp only [ltCps, Bool.or_eq_true, Bool.and_eq_true, decide_eq_true_eq, beq_iff_eq] at h k ⊢
    rcases h with h | ⟨rfl, h⟩
    · rcases k with k | ⟨rfl, k⟩
      · exact .inl (by omega)
      · exact .inl h
    · rcases k with k | ⟨rfl, k⟩
      · exact .inl k
      · exact .inr ⟨rfl, lt_tr h k⟩
theorem lt_irr : ∀ a : List Nat, ltCps a a = false
  | [] => rfl
  | x :: r => by simp [ltCps, lt_irr r]
def Asc (ms : List Str) : Prop := ms.Pairwise fun a b => ltCps a.cps.toList b.cps.toList = true
theorem Asc.nodup {ms : List Str} (h : Asc ms) : ms.Nodup := List.Pairwise.imp (fun {a b} q e => by
  rw [e, lt_irr] at q
  cases q) h
theorem asc_of : ∀ {ms : List Str}, ms.Nodup → sortedS ms = true → Asc ms
  | [], _, _ => .nil
  | p :: l, nd, h => by
    have go : ∀ (l : List Str) (p : Str), (p :: l).Nodup → risingS p l = true → Asc (p :: l) := by
      intro l
      induction l with
      | nil => intro p _ _; exact List.pairwise_singleton _ _
      | cons x r ih =>
        intro p nd h
        have h' := Bool.and_eq_true_iff.mp (show (!ltCps x.cps.toList p.cps.toList && risingS x r) = true from h)
        have nd' := List.nodup_cons.mp nd
        have t := ih x nd'.2 h'.2
        have px : ltCps p.cps.toList x.cps.toList = true := by
          refine lt_tot _ _ (fun e => nd'.1 ?_) (by simpa using h'.1)
          have : p = x := by
            cases p
            cases x
            simpa using e
          rw [this]
          exact List.mem_cons_self
        refine List.pairwise_cons.mpr ⟨fun y hy => ?_, t⟩
        rcases List.mem_cons.mp hy with rfl | hy
        · exact px
        · exact lt_tr px ((List.pairwise_cons.mp t).1 y hy)
    exact go l p nd h
def spMarks : Sp := fun vs H Q _ => ∃ (p : Addr) (f : Nat) (m : Int), vs = [.ref p, .int m] ∧ 1 ≤ m ∧ m ≤ 20 ∧ PurseAt H p (f + 12 + 11 * m.toNat) ∧
  ∀ (L : Addr) (ms : List Str) (H' : Hp), ms.length = m.toNat → Asc ms → (∀ z ∈ ms, WordOk z) → H L = none → H' L = some (.lst (ms.map V.str)) → PurseAt H' p f → But p H H' → Q (.ref L) H'
section
variable {P : Program} {w : World} {K : PySem.W.Frag} {mg : Str → Option Value} {base : Heap} {f : Addr} {fd : FuncData}
theorem scMarks : FnScope ["_law_purse_here", "_law_many"] ["_law_purse_here", "_law_many"] (defScope sMarks) := ⟨rfl, rfl, rfl, by decide +kernel, rfl, by decide +kernel, by decide +kernel⟩
theorem ok_marks {fW : Addr} {fdW : FuncData} (F : FnP K "_law_marks" sMarks f fd) (hso : mg "sorted" = none)
    (GW : FnOk P w K mg base CX0 4 fW fdW ["_law_purse_here", "_law_many"] spWords) (bW : Binds K fdW ["_law_purse_here", "_law_many"] []) (kW : PySem.W.keepIn K (.ref fW) = true) (gW : mg "_law_words" = some (.ref fW)) :
    FnOk P w K mg base CX0 5 f fd ["_law_purse_here", "_law_many"] spMarks := by
  refine F.ok scMarks (fun vs H Q E h => ?_) (fun cdv A outer s H vs Q E hr h => ?_)
  · obtain ⟨p, g, m, rfl, _⟩ := h
    rfl
  · obtain ⟨p, g, m, rfl, m1, m2, hP, k⟩ := h
    refine ⟨_, PSs.nox (pss_one (ps_ret (pe_callB cr_sortedS (by rfl) hso (by decide +kernel) (pa_cons (pe_call GW hr rfl gW kW bW .nil pass0 (pa_cons (pv 0) (pa_cons (pv 1) pa_nil))) pa_nil)))), ?_⟩
    refine ⟨_, rfl, _, rfl, p, g, m, rfl, m1, m2, hP, fun L ws H1 hl nd hw nL hL hP1 hB => ?_⟩
    refine ⟨L, ws, rfl, SqL.of hL, by rw [hl]; omega, fun ys q perm sorted nq => ?_⟩
    have sq := same_new (o := .lst (ys.map V.str)) nq
    have nqH : H q = none := by
      cases e : H q with
      | none => rfl
      | some o =>
        by_cases c : q = p
        · obtain ⟨o2, e2⟩ := hP1.some
          rw [c, e2] at nq
          cases nq
        · rw [hB q o c e] at nq
          cases nq
    exact k q ys _ (by rw [perm.length_eq, hl]) (asc_of (perm.nodup_iff.mpr nd) sorted) (fun z hz => hw z (perm.mem_iff.mp hz)) nqH upd_same (hP1.to fun o e => sq _ _ e) fun b o n e => sq _ _ (hB b o n e)
end
end Yt

set_option Elab.async false
set_option linter.all false
set_option maxRecDepth 100000
set_option maxHeartbeats 2000000
namespace Yt
open PySem PySem.Spec PyProof.Rows L2
/-! ### all rows of three -/
def grow (ms : List Str) (L : List (List Key)) : List (List Key) := L.flatMap fun s => ms.map fun c => s ++ [Sum.inr c]
def growN (ms : List Str) : Nat → List (List Key)
  | 0 => [[]]
  | n + 1 => grow ms (growN ms n)
theorem grow_len (ms : List Str) : ∀ L : List (List Key), (grow ms L).length = L.length * ms.length
  | [] => by simp [grow]
  | s :: L => by
    have := grow_len ms L
    unfold grow at this ⊢
    rw [List.flatMap_cons, List.length_append, this, List.length_map, List.length_cons]
    rw [Nat.add_mul]
    omega
theorem grow_append (ms : List Str) (L M : List (List Key)) : grow ms (L ++ M) = grow ms L ++ grow ms M := by
  unfold grow
  exact List.flatMap_append
theorem growN_len (ms : List Str) (n : Nat) : (growN ms n).length = ms.length ^ n := by
  induction n with
  | zero => rfl
  | succ n ih => rw [growN, grow_len, ih, Nat.pow_succ]
theorem growN_each (ms : List Str) : ∀ (n : Nat) (k : List Key), k ∈ growN ms n → k.length = n
  | 0, k, h => by
    rw [List.mem_singleton.mp h] <;> rfl
  | n + 1, k, h => by
    obtain ⟨s, hs, h2⟩ := List.mem_flatMap.mp h
    obtain ⟨c, _, rfl⟩ := List.mem_map.mp h2
    rw [List.length_append, growN_each ms n s hs] <;> rfl
theorem Paired.snoc {α β : Type} {R : α → β → Prop} {xs : List α} {ys : List β} {x : α} {y : β} (h : Paired R xs ys) (r : R x y) : Paired R (xs ++ [x]) (ys ++ [y]) := by
  induction h with
  | nil => exact .cons r .nil
  | cons h _ ih => exact .cons h ih
def TupAt (H : Hp) (t : Addr) (k : List Key) : Prop := H t = some (.tup (k.map kV))
theorem pair_app {α β : Type} {R : α → β → Prop} : ∀ {xs xs' : List α} {ys ys' : List β}, Paired R xs ys → Paired R xs' ys' → Paired R (xs ++ xs') (ys ++ ys')
  | _, _, _, _, .nil, h => h
  | _, _, _, _, .cons h t, k => .cons h (pair_app t k)
def spThrees (K : PySem.W.Frag) : Sp := fun vs H Q _ => ∃ (a : Addr) (ms : List Str), vs = [.ref a] ∧ SqL K H a (ms.map V.str) ∧ ms.length ≤ 5 ∧
  ∀ (L : Addr) (ts : List Addr) (H' : Hp), H L = none → H' L = some (.lst (ts.map V.ref)) → Paired (TupAt H') ts (growN ms 3) → Same H H' → Q (.ref L) H'
section
variable {P : Program} {w : World} {K : PySem.W.Frag} {mg : Str → Option Value} {base : Heap} {f : Addr} {fd : FuncData}
theorem scThrees : FnScope ["_law_marks_here", "_law_found", "_law_turn", "_law_longer", "_law_some", "_law_mark"] ["_law_marks_here"] (defScope sThrees) := ⟨rfl, rfl, rfl, by decide +kernel, rfl, by decide +kernel, by decide +kernel⟩
theorem ok_threes (F : FnP K "_law_threes" sThrees f fd) (T : Nm mg) : FnOk P w K mg base CX0 1 f fd ["_law_marks_here"] (spThrees K) := by
  refine F.ok scThrees (fun vs H Q E h => ?_) (fun cdv A outer s H vs Q E hr h => ?_)
  · obtain ⟨a, ms, rfl, _⟩ := h
    rfl
  · obtain ⟨a, ms, rfl, hS, few, k⟩ := h
    refine ⟨_, PSs.nox (pss_cons (ps_set (i := 1) scThrees.nd rfl (Or.inl rfl) (pe_lst (pa_cons (pe_tup pa_nil) pa_nil)))
      (pss_cons (ps_for PassesOwn.never rfl (pi_range1 rfl T.range (pa_cons pe_int pa_nil)) (pg_name (i := 2) scThrees.nd rfl (Or.inl rfl))
        (pss_cons (ps_set (i := 3) scThrees.nd rfl (Or.inl rfl) (pe_lst pa_nil))
        (pss_cons (ps_for PassesOwn.never rfl (pi_list (pv 1)) (pg_name (i := 4) scThrees.nd rfl (Or.inr rfl))
          (pss_one (ps_set (i := 3) scThrees.nd rfl (Or.inl rfl) (pe_op op_cat (pv 3) (pe_lc (own := [("_law_mark", 5)]) (g := gName 5) (tt := tYes) (te := tOp (rCatA K) (tVar 4) (tTup (tCons (tVar 5) tNil))) rfl scThrees.nd (pi_list (pv 0)) (blkOk_by (own := [("_law_mark", 5)]) (N := ["_law_marks_here", "_law_found", "_law_turn", "_law_longer", "_law_some", "_law_mark"]) (sc := defScope sThrees) (by decide +kernel))
            (fun _ _ _ _ _ => pg_name (i := 5) scThrees.nd rfl (Or.inl rfl)) (fun _ _ _ _ _ => pts_nil) (fun _ _ _ _ _ => pe_op op_catA (pv 4) (pe_tup (pa_cons (pv 5) pa_nil))))))))
        (pss_one (ps_set (i := 1) scThrees.nd rfl (Or.inl rfl) (pv 3))))))
      (pss_one (ps_ret (pv 1))))), ?_⟩
    have small5 : ∀ n, n ≤ 3 → (growN ms n).length ≤ 125 := fun n hn => by
      rw [growN_len]
      calc ms.length ^ n ≤ 5 ^ n := Nat.pow_le_pow_left few n
        _ ≤ 5 ^ 3 := Nat.pow_le_pow_right (by decide) hn
    have sz : ∀ {n : Nat}, n ≤ 1000 → n ≤ sizeLine := fun h => by
      rw [sizeLine_eq]
      omega
    refine ⟨(by show 0 ≤ sizeLine; decide), fun t0 nt0 => ⟨(by show 1 ≤ sizeLine; decide), fun L0 nL0 => ?_⟩⟩
    have s0 := same_new (o := .tup []) nt0
    have sL := same_new (o := .lst [V.ref t0]) nL0
    refine ⟨_, rfl, by decide, by decide, for_range (lo := 0) (n := 3) (fun i σ Hc => ∃ (v2 v3 v4 v5 : Option V) (L : Addr) (ts : List Addr), σ = [some (.ref a), some (.ref L), v2, v3, v4, v5] ∧ H L = none ∧ Hc L = some (.lst (ts.map V.ref)) ∧ Paired (TupAt Hc) ts (growN ms i) ∧ Same H Hc)
      ⟨none, none, none, none, L0, [t0], rfl, ?_, upd_same, .cons (sL _ _ upd_same) .nil, fun b o e => sL _ _ (s0 _ _ e)⟩ ?_ ?_⟩
    · cases e : H L0 with
      | none => rfl
      | some o =>
        rw [s0 _ _ e] at nL0
        cases nL0
    · rintro i σ Hc hi ⟨v2, v3, v4, v5, L, ts, rfl, nL, hL, hT, hH⟩
      have li := small5 i (by omega)
      have li1 := small5 (i + 1) (by omega)
      refine ⟨(by show 0 ≤ sizeLine; decide), fun G0 nG0 => ?_⟩
      have sG := same_new (o := .lst []) nG0
      have nGH : ∀ {q : Addr} {Hx : Hp}, Same H Hx → Hx q = none → H q = none := fun {q Hx} z e => by
        cases e2 : H q with
        | none => rfl
        | some o =>
          rw [z _ _ e2] at e
          cases e
      refine ⟨_, rfl, L, rfl, ⟨_, SqL.of (sG _ _ hL)⟩, for_list (K := K) (a := L) (xs := ts.map V.ref) (fun j σ Hd => ∃ (w2 w4 w5 : Option V) (G : Addr) (gs : List Addr), σ = [some (.ref a), some (.ref L), w2, some (.ref G), w4, w5] ∧ H G = none ∧ Hd G = some (.lst (gs.map V.ref)) ∧ Paired (TupAt Hd) gs (grow ms ((growN ms i).take j)) ∧ Same Hc Hd)
        ⟨some (.int (0 + i)), v4, v5, G0, [], rfl, nGH hH nG0, upd_same, .nil, sG⟩ (fun j σ Hd _ ⟨_, _, _, _, _, _, _, _, _, z⟩ => SqL.of (z _ _ hL)) ?_ ?_⟩
      · rintro j u σ Hd hj ⟨w2, w4, w5, G, gs, rfl, nG, hG, hgs, hD⟩
        obtain ⟨t, et, rfl⟩ : ∃ t, ts[j]? = some t ∧ V.ref t = u := by
          rw [List.getElem?_map] at hj
          exact Option.map_eq_some_iff.mp hj
        obtain ⟨sk, ek, ht⟩ := paired_at' hT et
        have hd1 : TupAt Hd t sk := hD _ _ ht
        have etk : (growN ms i).take (j + 1) = (growN ms i).take j ++ [sk] := by rw [List.take_add_one, ek] <;> rfl
        have gl : gs.length = (grow ms ((growN ms i).take j)).length := Paired.length hgs
        have grl : (grow ms ((growN ms i).take j)).length + ms.length ≤ 130 := by
          rw [grow_len, List.length_take]
          have h1 : min j (growN ms i).length * ms.length ≤ (growN ms i).length * ms.length := Nat.mul_le_mul_right _ (Nat.min_le_right _ _)
          have h2 : (growN ms i).length * ms.length = (growN ms (i + 1)).length := by rw [growN, grow_len]
          omega
        have hHd : Same H Hd := fun b o e => hD _ _ (hH _ _ e)
        refine ⟨_, rfl, _, rfl, a, rfl, ⟨_, hHd.seq hS⟩, fun D nD => ?_⟩
        have sD := same_new (o := .lst []) nD
        refine lc_list (K := K) (a := a) (xs := ms.map V.str) (fun c Hx => ∃ rs : List Addr, Hx D = some (.lst (rs.map V.ref)) ∧ Paired (fun r kk => r ≠ D ∧ TupAt Hx r kk) rs ((ms.take c).map fun z => sk ++ [Sum.inr z]) ∧ Same Hd Hx) ?_ ?_ ?_ ?_
        · exact ⟨[], upd_same, .nil, sD⟩
        · rintro c Hx hc ⟨rs, q1, q2, q3⟩
          exact q3.seq (hHd.seq hS)
        · rintro c x Hx hx ⟨rs, q1, q2, q3⟩
          obtain ⟨z, ez, rfl⟩ : ∃ z, ms[c]? = some z ∧ V.str z = x := by
            rw [List.getElem?_map] at hx
            exact Option.map_eq_some_iff.mp hx
          have hcl : c < ms.length := (List.getElem?_eq_some_iff.mp ez).1
          have emk : (ms.take (c + 1)).map (fun z => sk ++ [(Sum.inr z : Key)]) = (ms.take c).map (fun z => sk ++ [Sum.inr z]) ++ [sk ++ [Sum.inr z]] := by
            rw [List.take_add_one, ez, List.map_append] <;> rfl
          have rl : rs.length = c := by
            rw [Paired.length q2, List.length_map, List.length_take]
            omega
          have skl : sk.length = i := growN_each ms i sk (List.mem_of_getElem? ek)
          refine ⟨rfl, ?_⟩
          refine ⟨_, rfl, _, rfl, (by show 1 ≤ sizeLine; decide), fun t1 nt1 => ?_⟩
          have s1 := same_new (o := .tup [V.str z]) nt1
          have put : ∀ (r : Addr) (Hy : Hp), Same Hx Hy → Hx r = none → Hy r = some (.tup ((sk ++ [(Sum.inr z : Key)]).map kV)) →
              ∃ acc, Hy D = some (.lst acc) ∧ acc.length < sizeLine ∧ ∃ rs : List Addr, (upd Hy D (.lst (acc ++ [V.ref r]))) D = some (.lst (rs.map V.ref)) ∧ Paired (fun q kk => q ≠ D ∧ TupAt (upd Hy D (.lst (acc ++ [V.ref r]))) q kk) rs ((ms.take (c + 1)).map fun z => sk ++ [Sum.inr z]) ∧ Same Hd (upd Hy D (.lst (acc ++ [V.ref r]))) := by
            intro r Hy sy nr hr
            have rD : r ≠ D := fun q => by
              rw [q, q1] at nr
              cases nr
            refine ⟨_, sy _ _ q1, ?_, rs ++ [r], ?_, ?_, fun b o e => ?_⟩
            · rw [List.length_map, rl]
              exact len_ok (by omega)
            · rw [upd_same, List.map_append] <;> rfl
            · rw [emk]
              exact Paired.snoc (Paired.mapP q2 fun r' kk h => ⟨h.1, (upd_ne h.1).trans (sy _ _ h.2)⟩) ⟨rD, (upd_ne rD).trans hr⟩
            · exact (upd_ne (ne_of_none e nD)).trans (sy _ _ (q3 _ _ e))
          have ht1 := s1 _ _ (q3 _ _ hd1)
          refine ⟨t, t1, sk.map kV, [V.str z], rfl, rfl, SqT.of ht1, SqT.of upd_same, ?_, fun e0 => ?_, fun _ e1 => (by simp at e1), fun e0 _ r nr => ?_⟩
          · rw [List.length_map, skl]
            exact sz (show i + 1 ≤ 1000 by omega)
          · have : sk = [] := List.map_eq_nil_iff.mp e0
            refine put t1 _ s1 nt1 ?_
            rw [this]
            exact upd_same
          · refine put r _ (fun b o e => same_new nr _ _ (s1 _ _ e)) ?_ ?_
            · cases e : Hx r with
              | none => rfl
              | some o =>
                rw [s1 _ _ e] at nr
                cases nr
            · rw [upd_same, List.map_append] <;> rfl
        · rintro Hx ⟨rs, q1, q2, q3⟩
          rw [List.length_map, List.take_length] at q2
          have rl : rs.length = ms.length := by rw [Paired.length q2, List.length_map]
          refine ⟨G, D, gs.map V.ref, rs.map V.ref, rfl, rfl, q3 _ _ hG, q1, ?_, fun p np => ?_⟩
          · rw [List.length_map, List.length_map, gl, rl]
            exact sz (by omega)
          · have sp := same_new (o := .lst (gs.map V.ref ++ rs.map V.ref)) np
            refine ⟨_, _, _, p, gs ++ rs, rfl, ?_, ?_, ?_, fun b o e => sp _ _ (q3 _ _ (hD _ _ e))⟩
            · exact nGH (fun b o e => q3 _ _ (hHd _ _ e)) np
            · rw [upd_same, List.map_append]
            · rw [etk, grow_append]
              refine pair_app (Paired.mapP hgs fun r kk h => sp _ _ (q3 _ _ h)) ?_
              have e1 : grow ms [sk] = ms.map fun z => sk ++ [(Sum.inr z : Key)] := by
                unfold grow
                rw [List.flatMap_cons, List.flatMap_nil, List.append_nil]
              rw [e1]
              exact Paired.mapP q2 fun r kk h => sp _ _ h.2
      · rintro σ Hd ⟨w2, w4, w5, G, gs, rfl, nG, hG, hgs, hD⟩
        refine ⟨_, rfl, ?_⟩
        refine ⟨_, _, _, _, G, gs, rfl, nG, hG, ?_, fun b o e => hD _ _ (hH _ _ e)⟩
        rw [show (ts.map V.ref).length = (growN ms i).length by rw [List.length_map]; exact Paired.length hT, List.take_length] at hgs
        exact hgs
    · rintro σ Hc ⟨v2, v3, v4, v5, L, ts, rfl, nL, hL, hT, hH⟩
      exact ⟨_, rfl, k L ts Hc nL hL hT hH⟩
end
end Yt

set_option Elab.async false
set_option linter.all false
set_option maxRecDepth 100000
set_option maxHeartbeats 2000000
namespace Yt
open PySem PySem.Spec PyProof.Rows L2
abbrev sIsWord : Stmt := top 9
abbrev sAreMarks : Stmt := top 10
abbrev sCheckMarks : Stmt := top 11
structure Nm7 (mg : Str → Option Value) : Prop where
  str : mg "str" = none
theorem ge_a {c : Nat} (h : 97 ≤ c) : (!decide ((⟨#[c]⟩ : Str).cps.toList < ("a" : Str).cps.toList)) = true := by
  have e : ("a" : Str).cps.toList = [97] := by decide +kernel
  rw [e, ← PyProof.Rows.ltCps_eq]
  show (!ltCps [c] [97]) = true
  have h1 : ¬ c < 97 := by omega
  simp [ltCps, h1]
theorem le_z {c : Nat} (h : c ≤ 122) : (!decide (("z" : Str).cps.toList < (⟨#[c]⟩ : Str).cps.toList)) = true := by
  have e : ("z" : Str).cps.toList = [122] := by decide +kernel
  rw [e, ← PyProof.Rows.ltCps_eq]
  show (!ltCps [122] [c]) = true
  have h1 : ¬ 122 < c := by omega
  simp [ltCps, h1]
def spYes (R : Hp → List V → Prop) : Sp := fun vs H Q _ => R H vs ∧ ∀ H', Same H H' → Q (.bl true) H'
section
variable {P : Program} {w : World} {K : PySem.W.Frag} {mg : Str → Option Value} {base : Heap} {f : Addr} {fd : FuncData}
theorem scIsWord : FnScope ["value", "letter"] ["value"] (defScope sIsWord) := ⟨rfl, rfl, rfl, by decide +kernel, rfl, by decide +kernel, by decide +kernel⟩
theorem ok_isword (F : FnP K "is_word" sIsWord f fd) (T : Nm mg) (T6 : Nm6 mg) (T7 : Nm7 mg) : FnOk P w K mg base CX0 1 f fd ["value"] (spYes fun _ vs => ∃ z, vs = [.str z] ∧ WordOk z) := by
  refine F.ok scIsWord (fun vs H Q E h => ?_) (fun cdv A outer s H vs Q E hr h => ?_)
  · obtain ⟨⟨z, rfl, _⟩, _⟩ := h
    rfl
  · obtain ⟨⟨z, rfl, hz⟩, k⟩ := h
    refine ⟨_, PSs.nox (pss_cons (ps_if (PW.pt (pw_or (pt_not (pt_val (pe_callB call_isi (by rfl) T6.isi (by decide +kernel) (pa_cons (pv 0) (pa_cons (pe_bltn (v := .ty "str") (u := .type "str") (by rfl) T7.str (by decide +kernel) rfl) pa_nil)))))
        (pw_or1 (pt_not (pt_chain op_le op_le pe_int (pe_callB call_len (by rfl) T.len PySem.boot_len (pa_cons (pv 0) pa_nil)) pe_int))))) (pss_one (ps_ret pe_bl)) pss_nil)
      (pss_one (ps_ret (pe_callB (cr_all rfl) (by rfl) T6.all (by decide +kernel) (pa_cons (pe_lc (own := [("letter", 1)]) (g := gName 1) (tt := tYes) rfl scIsWord.nd (pi_str (pv 0)) (blkOk_by (own := [("letter", 1)]) (N := ["value", "letter"]) (sc := defScope sIsWord) (by decide +kernel))
            (fun _ _ _ _ _ => pg_name (i := 1) scIsWord.nd rfl (Or.inl rfl)) (fun _ _ _ _ _ => pts_nil) (fun _ _ _ _ _ => pe_chain op_le_str op_le_str pe_str (pv 1) pe_str)) pa_nil))))), ?_⟩
    have zl : z.length ≤ sizeLine := by
      have := hz.1
      rw [sizeLine_eq]
      omega
    refine ⟨_, rfl, _, _, .type "str", _, true, rfl, .ty _, .base (.str _), kit_ty (by decide +kernel), _, rfl, ?_⟩
    refine iteF ?_
    refine ⟨_, rfl, _, z.length, rfl, ⟨zl, rfl⟩, _, _, rfl, rfl, ?_⟩
    refine ⟨true, by show V.bl (decide ((1 : Int) ≤ (z.length : Nat))) = _; rw [decide_eq_true (show (1 : Int) ≤ (z.length : Nat) by have := hz.1; omega)], ?_⟩
    refine iteT ?_
    refine ⟨_, _, rfl, rfl, true, by show V.bl (decide (((z.length : Nat) : Int) ≤ 8)) = _; rw [decide_eq_true (show ((z.length : Nat) : Int) ≤ 8 by have := hz.1; omega)], ?_⟩
    refine iteF ?_
    refine ⟨_, rfl, z, rfl, fun D hD => ?_⟩
    refine lc_it (walk_str (z := z)) (fun i H3 => H3 D = some (.lst ((List.replicate i true).map V.bl)) ∧ Same H H3) ?_ ?_ ?_ ?_
    · exact ⟨upd_same, same_new hD⟩
    · exact fun _ _ _ _ => trivial
    · rintro i v H3 H4 hi ⟨q5, s5⟩ ⟨rfl, c, hc, rfl⟩
      have hc1 : 97 ≤ c ∧ c ≤ 122 := hz.2 c (List.mem_of_getElem? (by rw [Array.getElem?_toList]; exact hc))
      have hi8 : i < 8 := by
        have : z.cps.size ≤ 8 := hz.1.2
        omega
      refine ⟨rfl, ?_⟩
      refine ⟨_, rfl, _, _, rfl, rfl, true, by rw [ge_a hc1.1], ?_⟩
      refine iteT ?_
      refine ⟨_, _, rfl, rfl, ?_⟩
      rw [le_z hc1.2]
      refine ⟨_, q5, ?_, ?_, fun b o e => ?_⟩
      · rw [List.length_map, List.length_replicate]
        exact len_ok (by omega)
      · rw [upd_same, List.replicate_succ', List.map_append]
        rfl
      · exact (upd_ne (ne_of_none e hD)).trans (s5 _ _ e)
    · rintro H3 ⟨q5, s5⟩
      refine ⟨D, List.replicate z.cps.size true, rfl, SqL.of q5, ?_⟩
      rw [all_rep]
      exact k _ s5
theorem scAreMarks : FnScope ["value", "mark", "low", "high"] ["value"] (defScope sAreMarks) := ⟨rfl, rfl, rfl, by decide +kernel, rfl, by decide +kernel, by decide +kernel⟩
theorem cut_one (xs : List V) (h : 1 ≤ xs.length) : cutV xs (some 1) none = xs.drop 1 := by
  have e : HT.sIx xs.length 0 (some (1 : Int)) = 1 := by
    rw [show (1 : Int) = ((1 : Nat) : Int) from rfl, HT.sIx_nat]
    omega
  unfold cutV
  rw [e, HT.sIx_none, List.take_of_length_le (by rw [List.length_drop]; exact Nat.le_refl _)]
/-- marks -/
def MarksOk (ms : List Str) : Prop := 1 ≤ ms.length ∧ ms.length ≤ 5 ∧ Asc ms ∧ ∀ z ∈ ms, WordOk z
theorem ok_aremarks {fW : Addr} {fdW : FuncData} (F : FnP K "are_marks" sAreMarks f fd) (T : Nm mg) (T6 : Nm6 mg) (GW : FnOk P w K mg base CX0 1 fW fdW ["value"] (spYes fun _ vs => ∃ z, vs = [.str z] ∧ WordOk z)) (bW : Binds K fdW ["value"] []) (kW : PySem.W.keepIn K (.ref fW) = true) (gW : mg "is_word" = some (.ref fW)) :
    FnOk P w K mg base CX0 2 f fd ["value"] (spYes fun H vs => ∃ a ms, vs = [.ref a] ∧ H a = some (.lst (ms.map V.str)) ∧ MarksOk ms) := by
  refine F.ok scAreMarks (fun vs H Q E h => ?_) (fun cdv A outer s H vs Q E hr h => ?_)
  · obtain ⟨⟨a, ms, rfl, _⟩, _⟩ := h
    rfl
  · obtain ⟨⟨a, ms, rfl, ha, hm1, hm2, hm3, hm4⟩, k⟩ := h
    refine ⟨_, PSs.nox (pss_cons (ps_if (PW.pt (pw_or (pt_not (pt_val (pe_callB call_isi (by rfl) T6.isi (by decide +kernel) (pa_cons (pv 0) (pa_cons (pe_bltn (v := .ty "list") (u := .type "list") (by rfl) T6.list (by decide +kernel) rfl) pa_nil)))))
        (pw_or1 (pt_not (pt_truth (pv 0) (by intro _; rfl)))))) (pss_one (ps_ret pe_bl)) pss_nil)
      (pss_cons (ps_if (pt_not (pt_val (pe_callB (cr_all rfl) (by rfl) T6.all (by decide +kernel) (pa_cons (pe_lc (own := [("mark", 1)]) (g := gName 1) (tt := tYes) rfl scAreMarks.nd (pi_list (pv 0)) (blkOk_by (own := [("mark", 1)]) (N := ["value", "mark", "low", "high"]) (sc := defScope sAreMarks) (by decide +kernel))
            (fun _ _ _ _ _ => pg_name (i := 1) scAreMarks.nd rfl (Or.inl rfl)) (fun _ _ _ _ _ => pts_nil) (fun _ _ _ _ _ => pe_call GW hr rfl gW kW bW .nil pass0 (pa_cons (pv 1) pa_nil))) pa_nil)))) (pss_one (ps_ret pe_bl)) pss_nil)
      (pss_one (ps_ret (pe_callB (cr_all rfl) (by rfl) T6.all (by decide +kernel) (pa_cons (pe_lc (own := [("low", 2), ("high", 3)]) (g := gTup K 2 (gCons (gName 2) (gCons (gName 3) gNil))) (tt := tYes) rfl scAreMarks.nd (pi_zip rfl T6.zip (pa_cons (pv 0) (pa_cons (pe_slice sl_list (pv 0) (po_some pe_int) po_none) pa_nil))) (blkOk_by (own := [("low", 2), ("high", 3)]) (N := ["value", "mark", "low", "high"]) (sc := defScope sAreMarks) (by decide +kernel))
            (fun _ _ _ _ _ => pg_tup rfl (pgs_cons (pg_name (i := 2) scAreMarks.nd rfl (Or.inl rfl)) (pgs_cons (pg_name (i := 3) scAreMarks.nd rfl (Or.inl rfl)) pgs_nil))) (fun _ _ _ _ _ => pts_nil) (fun _ _ _ _ _ => pe_cmpR op_lt_str (pv 2) (pv 3) (nomark _))) pa_nil)))))), ?_⟩
    refine ⟨_, rfl, _, _, .type "list", _, true, rfl, .ty _, .base (.lst ha), kit_ty (by decide +kernel), _, rfl, ?_⟩
    refine iteF ?_
    refine ⟨_, rfl, true, .inl ⟨ms.map V.str, SqL.of ha, ?_⟩, ?_⟩
    · cases ms with
      | nil => exact absurd hm1 (by decide)
      | cons m ms => rfl
    refine iteF ?_
    refine ⟨_, rfl, a, rfl, ⟨_, SqL.of ha⟩, fun D hD => ?_⟩
    refine lc_list (K := K) (a := a) (xs := ms.map V.str) (fun i H3 => H3 D = some (.lst ((List.replicate i true).map V.bl)) ∧ Same H H3) ?_ ?_ ?_ ?_
    · exact ⟨upd_same, same_new hD⟩
    · rintro i H3 hi ⟨q5, s5⟩
      exact SqL.of (s5 _ _ ha)
    · rintro i x H3 hx ⟨q5, s5⟩
      obtain ⟨z, ez, rfl⟩ : ∃ z, ms[i]? = some z ∧ V.str z = x := by
        rw [List.getElem?_map] at hx
        exact Option.map_eq_some_iff.mp hx
      have hi : i < ms.length := (List.getElem?_eq_some_iff.mp ez).1
      refine ⟨rfl, ?_⟩
      refine ⟨_, rfl, ⟨z, rfl, hm4 z (List.mem_of_getElem? ez)⟩, fun H6 s6 => ?_⟩
      refine ⟨_, s6 _ _ q5, ?_, ?_, fun b o e => ?_⟩
      · rw [List.length_map, List.length_replicate]
        exact len_ok (by omega)
      · rw [upd_same, List.replicate_succ', List.map_append]
        rfl
      · exact (upd_ne (ne_of_none e hD)).trans (s6 _ _ (s5 _ _ e))
    · rintro H3 ⟨q5, s5⟩
      refine ⟨D, List.replicate (ms.map V.str).length true, rfl, SqL.of q5, ?_⟩
      rw [all_rep]
      refine ⟨true, rfl, ?_⟩
      refine iteF ?_
      refine ⟨_, rfl, _, rfl, 1, rfl, a, ms.map V.str, rfl, SqL.of (s5 _ _ ha), fun S nS => ?_⟩
      have sS := same_new (o := .lst (cutV (ms.map V.str) (some 1) none)) nS
      have ha3 := sS _ _ (s5 _ _ ha)
      have hS : (upd H3 S (.lst (cutV (ms.map V.str) (some 1) none))) S = some (.lst ((ms.drop 1).map V.str)) := by
        rw [upd_same, cut_one _ (by rw [List.length_map]; exact hm1), List.map_drop]
      refine ⟨a, S, ms.map V.str, (ms.drop 1).map V.str, rfl, SqL.of ha3, SqL.of hS, fun D2 nD2 => ?_⟩
      refine lc_it (walk_zip (xs := ms.map V.str) (ys := (ms.drop 1).map V.str) (n := ms.length - 1) (by rw [List.length_map, List.length_map, List.length_drop]; omega)) (fun i H5 => H5 D2 = some (.lst ((List.replicate i true).map V.bl)) ∧ Same (upd H3 S (.lst (cutV (ms.map V.str) (some 1) none))) H5) ?_ ?_ ?_ ?_
      · exact ⟨upd_same, same_new nD2⟩
      · rintro i H5 hi ⟨q6, s6⟩
        exact ⟨SqL.of (s6 _ _ ha3), SqL.of (s6 _ _ hS)⟩
      · rintro i v H5 H6 hi ⟨q6, s6⟩ ⟨t, x, y, rfl, nt, rfl, ex, ey⟩
        obtain ⟨x1, e1, rfl⟩ : ∃ z, ms[i]? = some z ∧ V.str z = x := by
          have ex : (ms.map V.str)[i]? = some x := ex
          rw [List.getElem?_map] at ex
          exact Option.map_eq_some_iff.mp ex
        obtain ⟨y1, e2, rfl⟩ : ∃ z, ms[i + 1]? = some z ∧ V.str z = y := by
          have ey : ((ms.drop 1).map V.str)[i]? = some y := ey
          rw [List.getElem?_map, List.getElem?_drop, Nat.add_comm] at ey
          exact Option.map_eq_some_iff.mp ey
        have lt : ltCps x1.cps.toList y1.cps.toList = true := by
          obtain ⟨h1, g1⟩ := List.getElem?_eq_some_iff.mp e1
          obtain ⟨h2, g2⟩ := List.getElem?_eq_some_iff.mp e2
          have := List.pairwise_iff_getElem.mp hm3 i (i + 1) h1 h2 (Nat.lt_succ_self _)
          rwa [g1, g2] at this
        refine ⟨t, [.str x1, .str y1], rfl, SqT.of upd_same, rfl, _, _, rfl, _, _, rfl, rfl, rfl, ?_⟩
        refine ⟨_, rfl, _, rfl, _, _, rfl, rfl, ?_⟩
        rw [PyProof.Rows.ltCps_eq] at lt
        rw [lt]
        have q7 := same_new (o := .tup [V.str x1, V.str y1]) nt _ _ q6
        refine ⟨_, q7, ?_, ?_, fun b o e => ?_⟩
        · rw [List.length_map, List.length_replicate]
          exact len_ok (by omega)
        · rw [upd_same, List.replicate_succ', List.map_append]
          rfl
        · exact (upd_ne (ne_of_none e nD2)).trans (same_new nt _ _ (s6 _ _ e))
      · rintro H5 ⟨q6, s6⟩
        refine ⟨D2, List.replicate (ms.length - 1) true, rfl, SqL.of q6, ?_⟩
        rw [all_rep]
        exact k _ fun b o e => s6 _ _ (sS _ _ (s5 _ _ e))
end
end Yt

set_option Elab.async false
set_option linter.all false
set_option maxRecDepth 100000
set_option maxHeartbeats 2000000
namespace Yt
open PySem PySem.Spec PyProof.Rows L2
/-! ### list comprehensions with any number of `for` -/
abbrev notedR (prog : Program) (w : World) (A : Around) (R : Result → Shared → Prop) (env : Env) : Value → Shared → Prop := notedBy (model prog w) A env fun e s' => R (.error e) s'
section
variable {prog : Program} {w : World} {A : Around} {R : Result → Shared → Prop} {s : Shared} {elt t i t' i' : Expr} {ifs ifs' : List Expr} {gs : List Comprehension} {sc : Scope} {p : Pos} {it acc : Value} {env : Env} {k : Nat}
theorem turn_out (h0 : gs[k]? = some ⟨t, i, ifs, 0⟩) (h1 : gs[k + 1]? = some ⟨t', i', ifs', 0⟩) : compTurn (.ListComp elt gs sc p) k it acc env = (do
    standAt i.pos
    match ← pyNext it with
    | none => pure (.done .next)
    | some v =>
      letOwnedTupleGo t it v
      assign t env v
      let ok ← forIn ifs true fun c r => if r = true then do let ok ← isTrue c env (eval c env); pure (ForInStep.yield ok) else pure (ForInStep.yield r)
      if ok then
        let x ← eval i' env
        standAt i'.pos
        let x ← foldedSetIterable i' env x
        let _ ← runOwn (.compStart (.ListComp elt gs sc p) (k + 1) (← holding [x] (pyIter x)) acc env) env
      again (.compLoop (.ListComp elt gs sc p) k it acc env)) := by
  unfold compTurn
  dsimp only
  rw [h0]
  dsimp only
  rw [h1]
  rfl
theorem turn_in (h0 : gs[k]? = some ⟨t, i, ifs, 0⟩) (h1 : gs[k + 1]? = none) : compTurn (.ListComp elt gs sc p) k it acc env = (do
    standAt i.pos
    match ← pyNext it with
    | none => pure (.done .next)
    | some v =>
      letOwnedTupleGo t it v
      assign t env v
      let ok ← forIn ifs true fun c r => if r = true then do let ok ← isTrue c env (eval c env); pure (ForInStep.yield ok) else pure (ForInStep.yield r)
      if ok then
        (do let _ ← call (.builtin "list.append") [acc, ← eval elt env])
      again (.compLoop (.ListComp elt gs sc p) k it acc env)) := by
  unfold compTurn
  dsimp only
  rw [h0]
  dsimp only
  rw [h1]
  rfl
abbrev tests (ifs : List Expr) (env : Env) : Sem Bool := forIn ifs true fun c r => if r = true then do let ok ← isTrue c env (eval c env); pure (ForInStep.yield ok) else pure (ForInStep.yield r)
/-- what a turn does when the tests let it -/
abbrev goesIn (elt : Expr) (acc : Value) (env : Env) (more : Sem PySem.Fin) : Sem PySem.Fin := do
  (do let _ ← call (.builtin "list.append") [acc, ← eval elt env])
  more
abbrev goesOut (e i' : Expr) (k : Nat) (acc : Value) (env : Env) (more : Sem PySem.Fin) : Sem PySem.Fin := do
  let x ← eval i' env
  standAt i'.pos
  let x ← foldedSetIterable i' env x
  let _ ← runOwn (.compStart e (k + 1) (← holding [x] (pyIter x)) acc env) env
  more
abbrev turnOf (e i t : Expr) (ifs : List Expr) (M : Sem PySem.Fin → Sem PySem.Fin) (k : Nat) (it acc : Value) (env : Env) : Sem PySem.Fin := do
  standAt i.pos
  match ← pyNext it with
  | none => pure (.done .next)
  | some v =>
    letOwnedTupleGo t it v
    assign t env v
    let ok ← tests ifs env
    if ok = true then M (again (.compLoop e k it acc env)) else again (.compLoop e k it acc env)
theorem turn_in' (h0 : gs[k]? = some ⟨t, i, ifs, 0⟩) (h1 : gs[k + 1]? = none) : compTurn (.ListComp elt gs sc p) k it acc env = turnOf (.ListComp elt gs sc p) i t ifs (goesIn elt acc env) k it acc env := turn_in h0 h1
theorem turn_out' (h0 : gs[k]? = some ⟨t, i, ifs, 0⟩) (h1 : gs[k + 1]? = some ⟨t', i', ifs', 0⟩) : compTurn (.ListComp elt gs sc p) k it acc env = turnOf (.ListComp elt gs sc p) i t ifs (goesOut (.ListComp elt gs sc p) i' k acc env) k it acc env := by
  rw [turn_out h0 h1]
theorem loop_gen {M : Sem PySem.Fin → Sem PySem.Fin} (hM : ∀ it, compTurn (.ListComp elt gs sc p) k it acc env = turnOf (.ListComp elt gs sc p) i t ifs M k it acc env) (I : Nat → Shared → Prop)
    (turn : ∀ n s, I n s → wpAny (model prog w) A (pyNext it) (fun r s₁ => match r with
      | none => R (.ok .next) s₁
      | some v => wpAny (model prog w) A (letOwnedTupleGo t it v) (fun _ s₂ => wpAny (model prog w) A (assign t env v) (fun _ s₃ => wpAny (model prog w) A (tests ifs env) (fun ok s₄ =>
          if ok = true then ∀ (more : Sem PySem.Fin) (Qf : PySem.Fin → Shared → Prop), (∀ s₅, (∃ m, m < n ∧ I m s₅) → wpAny (model prog w) A more Qf (notedR prog w A R env) s₅) → wpAny (model prog w) A (M more) Qf (notedR prog w A R env) s₄ else ∃ m, m < n ∧ I m s₄) (notedR prog w A R env) s₃) (notedR prog w A R env) s₂) (notedR prog w A R env) s₁) (notedR prog w A R env) s)
    (n : Nat) (h : I n s) : codeAny (model prog w) A (.compLoop (.ListComp elt gs sc p) k it acc env) R s := by
  refine codeAny_loop rfl I (fun n s hI => ?_) n h
  show wpAny _ A ((compTurn (.ListComp elt gs sc p) k it acc env).onRaise (fun x => do noteFrame x env; theTreesLotGoes x)) _ _ s
  refine wpAny_noted ?_
  rw [hM]
  refine wpAny_bind (wpAny_standAt (wpAny_bind (wpAny_mono (turn n s hI) (fun r s₁ h₁ => ?_) fun _ _ q => q)))
  cases r with
  | none => exact wpAny_pure h₁
  | some v =>
    refine wpAny_bind (wpAny_mono h₁ (fun _ s₂ h₂ => wpAny_bind (wpAny_mono h₂ (fun _ s₃ h₃ => wpAny_bind (wpAny_mono h₃ (fun ok s₄ h₄ => ?_) fun _ _ q => q)) fun _ _ q => q)) fun _ _ q => q)
    cases ok with
    | false =>
      first
        | exact wpAny_pure ⟨rfl, h₄⟩
        | exact wpAny_bind (wpAny_pure (wpAny_pure ⟨rfl, h₄⟩))
    | true => exact h₄ _ _ fun s₅ h₅ => wpAny_pure ⟨rfl, h₅⟩
/-- the next clause's start -/
theorem start_gen (h0 : codeAny (model prog w) A (.compLoop (.ListComp elt gs sc p) k it acc env) R s) (hk : gs[k]? = some ⟨t, i, ifs, 0⟩)
    (h : wpAny (model prog w) A (pyIter it) (fun it' s' => codeAny (model prog w) A (.compLoop (.ListComp elt gs sc p) k it' acc env) R s') (notedR prog w A R env) s) :
    codeAny (model prog w) A (.compStart (.ListComp elt gs sc p) k it acc env) R s := by
  refine codeAny_of_tree ?_
  show wpAny _ _ ((compStart (.ListComp elt gs sc p) k it acc env).onRaise (fun x => do noteFrame x env; standAt theWindowsPlace)) _ _ s
  refine wpAny_notedAt ?_
  unfold compStart
  have ec : (clausesOf (.ListComp elt gs sc p))[k]? = some ⟨t, i, ifs, 0⟩ := hk
  rw [ec]
  show wpAny _ _ (ask >>= _) _ _ s
  refine wpAny_bind (wpAny_askSetting (wpAny_ite ?_))
  split
  · first
      | exact wpAny_bind (wpAny_pure (wpAny_pure (And.intro rfl h0)))
      | exact wpAny_pure (And.intro rfl h0)
  · refine wpAny_bind (wpAny_rule ?_)
    show wpAny _ _ (standAt i.pos >>= _) _ _ s
    exact wpAny_bind (wpAny_standAt (wpAny_bind (wpAny_mono h (fun _ _ q => wpAny_pure (And.intro rfl q)) fun _ _ q => q)))
end
/-- a clause as it is read; vs: the names that are set anew from here on -/
structure Cl where
  wi : TI
  g : TG
  tt : TT
  vs : List Nat
def topVs : List Cl → List Nat
  | [] => []
  | c :: _ => c.vs
/-- behind the tests of a clause: the clauses that are left, then the item is put to the list at D; N is reached -/
def bodyN (te : TE) (D : Addr) : List Cl → L2.St → Hp → (Hp → Prop) → Prop
  | [], σ, H, N => te σ H fun y H1 => ∃ acc, H1 D = some (.lst acc) ∧ acc.length < sizeLine ∧ N (upd H1 D (.lst (acc ++ [y])))
  | c :: cs, σ, H, N => c.wi σ H fun J H1 => ∃ W : Nat → Nat → Hp → Prop, (∃ m, W 0 m H1) ∧ ∀ j n H, W j n H → (J.stop j H ∧ N H) ∨
      (J.go j H ∧ ∃ N1 : Hp → Prop, (∀ H', N1 H' → ∃ n', n' < n ∧ W (j + 1) n' H') ∧ ∀ x H', J.yld j H x H' → c.g x (wipe σ c.vs) H' fun σ3 H5 => wipe σ3 c.vs = wipe σ c.vs ∧ c.tt σ3 H5 fun b H6 => if b = true then bodyN te D cs σ3 H6 N1 else N1 H6)
structure ClOk (Y : Cx) (q : Comprehension) (c : Cl) : Prop where
  sync : q.is_async = 0
  pi : PI Y q.target q.iter c.wi
  pg : PG Y q.target c.g
  pt : PTs Y q.ifs c.tt
  fold : ∀ x, foldedSetIterable q.iter Y.env x = pure x
def goesK (e elt : Expr) (a : Value) (env : Env) (k : Nat) : List Comprehension → Sem PySem.Fin → Sem PySem.Fin
  | [] => goesIn elt a env
  | q :: _ => goesOut e q.iter k a env
def Chain : List Cl → Prop
  | [] => True
  | c :: cs => (∀ i ∈ topVs cs, i ∈ c.vs) ∧ Chain cs
theorem drop_head {α : Type} {gs qs : List α} {q : α} {k : Nat} (h : gs.drop k = q :: qs) : gs[k]? = some q ∧ gs.drop (k + 1) = qs := by
  have h1 : (gs.drop k)[0]? = some q := by rw [h] <;> rfl
  rw [List.getElem?_drop, Nat.add_zero] at h1
  refine ⟨h1, ?_⟩
  rw [← List.drop_drop, h] <;> rfl
theorem drop_nil' {α : Type} {gs : List α} {k : Nat} (h : gs.drop k = []) : gs[k]? = none := by
  rw [List.getElem?_eq_none_iff]
  exact List.drop_eq_nil_iff.mp h
section
variable {Y : Cx} {elt : Expr} {gs : List Comprehension} {sc : Scope} {p : Pos} {te : TE} {D : Addr}
theorem turnK {k : Nat} {q : Comprehension} {qs : List Comprehension} {a it : Value} {env : Env} (h0 : gs[k]? = some q) (hq : q.is_async = 0) (h1 : gs.drop (k + 1) = qs) (hs : ∀ r ∈ qs, r.is_async = 0) :
    compTurn (.ListComp elt gs sc p) k it a env = turnOf (.ListComp elt gs sc p) q.iter q.target q.ifs (goesK (.ListComp elt gs sc p) elt a env k qs) k it a env := by
  obtain ⟨t, i, ifs, as⟩ := q
  simp only at hq
  subst hq
  cases qs with
  | nil => exact turn_in' h0 (drop_nil' h1)
  | cons r rs =>
    obtain ⟨t', i', ifs', as'⟩ := r
    have hr : as' = 0 := hs ⟨t', i', ifs', as'⟩ List.mem_cons_self
    subst hr
    exact turn_out' h0 (drop_head h1).1
theorem body_ok (calm : Y.calm = true) (hx : ∀ e s, Y.xe e s → False) (pe : PE Y elt te) : ∀ (cs : List Cl) (qs : List Comprehension) (k : Nat), gs.drop (k + 1) = qs → Paired (ClOk Y) qs cs → Chain cs → ∀ (pins : List (Addr × Obj)) (s : Shared) (σ : L2.St) (H : Hp) (N : Hp → Prop), Inv Y pins σ H s → bodyN te D cs σ H N →
    ∀ (more : Sem PySem.Fin) (Qf : PySem.Fin → Shared → Prop) (R : Result → Shared → Prop), (∀ s' H', Inv Y pins (wipe σ (topVs cs)) H' s' → N H' → wpAny (model Y.prog Y.w) Y.A more Qf (notedR Y.prog Y.w Y.A R Y.env) s') →
      wpAny (model Y.prog Y.w) Y.A (goesK (.ListComp elt gs sc p) elt (.ref D) Y.env k qs more) Qf (notedR Y.prog Y.w Y.A R Y.env) s
  | [], [], k, hd, .nil, _, pins, s, σ, H, N, I, h, more, Qf, R, fin => by
    show wpAny _ _ (goesIn elt (.ref D) Y.env more) _ _ _
    refine wpAny_bind (wpAny_bind (wpAny_mono (pe.run pins s σ H _ I h) (fun z s1 hz => ?_) fun e s' he => (hx e s' he).elim))
    obtain ⟨y, H1, I1, r1, acc, hD, few, nx⟩ := hz
    refine wpAny_bind ?_
    exact app_ok I1 hD few r1 fun s2 I2 => wpAny_pure (fin s2 _ I2 nx)
  | c :: cs, q :: qs, k, hd, .cons hc ht, hch, pins, s, σ, H, N, I, h, more, Qf, R, fin => by
    obtain ⟨gk, gd⟩ := drop_head hd
    have asy : ∀ r ∈ qs, r.is_async = 0 := by
      have go : ∀ {qs : List Comprehension} {cs : List Cl}, Paired (ClOk Y) qs cs → ∀ r ∈ qs, r.is_async = 0 := by
        intro qs cs h
        induction h with
        | nil => intro r hr; exact nomatch hr
        | cons h _ ih =>
          intro r hr
          rcases List.mem_cons.mp hr with rfl | hr
          · exact h.sync
          · exact ih r hr
      exact go ht
    show wpAny _ _ (goesOut (.ListComp elt gs sc p) q.iter k (.ref D) Y.env more) _ _ _
    refine wpAny_bind (wpAny_mono (hc.pi.run pins s σ H _ I h) (fun xv s1 h1 => ?_) fun e s' he => (hx e s' he).elim)
    refine wpAny_bind (wpAny_standAt (wpAny_bind (wpAny_of_eq (hc.fold xv) (wpAny_bind (wpAny_holding (wpAny_mono h1 (fun itv s2 h2 => ?_) fun e s' he => (hx e s' he).elim))))))
    obtain ⟨it1, fp1, tn1, J1, H1, e1, I1, T1, st1, f1, W, ⟨m1, w1⟩, turn⟩ := h2
    subst e1
    have stat : ∀ {G : Hp}, (∀ b ∈ fp1, G b = none) → ∀ b ∈ fp1, FpOk Y pins G b := fun hn b hb => ⟨hn b hb, (f1 b hb).2⟩
    have loop : codeAny (model Y.prog Y.w) Y.A (.compLoop (.ListComp elt gs sc p) (k + 1) (.ref it1) (.ref D) Y.env) (fun r s' => match r with
        | .ok _ => ∃ G, Inv Y pins (wipe σ c.vs) G s' ∧ N G
        | .error _ => False) s2 := by
      refine loop_gen (M := goesK (.ListComp elt gs sc p) elt (.ref D) Y.env (k + 1) qs) (fun it => turnK gk hc.sync gd asy) (fun n t => ∃ j G, Inv Y pins (wipe σ c.vs) G t ∧ tn1 j t.heap ∧ (∀ b ∈ fp1, G b = none) ∧ W j n G) ?_ m1 ⟨0, H1, I1.weak (wipe_length _ _) (fun j v e => (wipe_some e).1), st1, fun b hb => (f1 b hb).1, w1⟩
      rintro n s3 ⟨j, H3, I3, st3, n3, w3⟩
      rcases turn j n H3 w3 with ⟨stop, nx⟩ | ⟨go, N1, hN1, step⟩
      · refine thnF (T1.done Y rfl rfl rfl calm j _ s3 (wipe σ c.vs) H3 (fun _ _ => False) I3 (stat n3) st3 stop) fun r s4 ⟨hr, I4⟩ => ?_
        subst hr
        exact ⟨H3, I4, nx⟩
      · refine thnF (T1.item Y rfl rfl rfl calm j _ s3 (wipe σ c.vs) H3 (fun _ _ => False) I3 (stat n3) st3 go) fun r s4 ⟨u, hr, h4⟩ => ?_
        subst hr
        refine thnF h4 fun _ s5 ⟨x, H5, I5, r5, y5, st5, n5⟩ => ?_
        refine wpAny_mono (hc.pg.run _ s5 (wipe σ c.vs) H5 x u _ (I5.pinned (stat n5) (T1.obj _ _ st5)) r5 (step x H5 y5)) (fun _ s6 h6 => ?_) fun e s' he => (hx e s' he).elim
        obtain ⟨σ6, H6, I6, hw6, q6⟩ := h6
        refine wpAny_mono (hc.pt.run _ s6 σ6 H6 _ I6 q6) (fun b s7 h7 => ?_) fun e s' he => (hx e s' he).elim
        obtain ⟨H7, I7, q7⟩ := h7
        have back : ∀ {t : Shared} {G : Hp} {τ : L2.St}, Inv Y (pins ++ pinsAt fp1 s5.heap) τ G t → (wipe σ c.vs).length = τ.length → (∀ (i : Nat) v, (wipe σ c.vs)[i]? = some (some v) → τ[i]? = some (some v)) → N1 G →
            ∃ m, m < n ∧ ∃ j G, Inv Y pins (wipe σ c.vs) G t ∧ tn1 j t.heap ∧ (∀ b ∈ fp1, G b = none) ∧ W j m G := fun {t G τ} J hl hkn nx => by
          obtain ⟨n', lt, w'⟩ := hN1 G nx
          have held : ∀ b ∈ fp1, ∀ o, s5.heap.get? b = some o → t.heap.get? b = some o ∧ G b = none := fun b hb o e =>
            have z := J.pin (b, o) (List.mem_append_right _ (List.mem_append_right _ (mem_pinsAt hb e)))
            ⟨z.1, z.2.1⟩
          refine ⟨n', lt, j + 1, G, J.unpinned.weak hl hkn, T1.keep _ _ _ st5 fun b hb o e => (held b hb o e).1, fun b hb => ?_, w'⟩
          obtain ⟨o, e, _⟩ := T1.obj _ _ st5 b hb
          exact (held b hb o e).2
        have l6 : (wipe σ c.vs).length = σ6.length := by rw [← hw6, wipe_length]
        have k6 : ∀ (i : Nat) v, (wipe σ c.vs)[i]? = some (some v) → σ6[i]? = some (some v) ∧ i ∉ c.vs := fun i v e => by
          rw [← hw6] at e
          exact wipe_some e
        cases b with
        | false => exact back I7 l6 (fun i v e => (k6 i v e).1) q7
        | true =>
          intro more2 Qf2 hm
          refine body_ok calm hx pe cs qs (k + 1) gd ht hch.2 (pins ++ pinsAt fp1 s5.heap) s7 σ6 H7 N1 I7 q7 more2 Qf2 _ fun t G J nx => hm t (back J (l6.trans (wipe_length σ6 _).symm) (fun i v e => ?_) nx)
          obtain ⟨e1, e2⟩ := k6 i v e
          rw [wipe_out fun z => e2 (hch.1 i z)]
          exact e1
    refine wpAny_bind (wpAny_runOwn ?_)
    rw [Around.mark_none]
    have gk' : gs[k + 1]? = some ⟨q.target, q.iter, q.ifs, 0⟩ := by
      rw [gk]
      obtain ⟨t, i, ifs, a0⟩ := q
      have z : a0 = 0 := hc.sync
      rw [z]
    refine codeAny_mono (start_gen loop gk' (T1.self Y.A 0 _ _ _ st1 loop)) fun r s' hr => ?_
    cases r with
    | ok f =>
      obtain ⟨G, J, nx⟩ := hr
      exact fin s' G J nx
    | error e => exact hr.elim
end
/-- [elt for .. for .. for ..]: c the first clause, cs the others -/
def tLcN (c : Cl) (cs : List Cl) (te : TE) : TE := fun σ H Q => c.wi σ H fun J H1 => ∀ D, H1 D = none → ∃ W : Nat → Nat → Hp → Prop, (∃ m, W 0 m (upd H1 D (.lst []))) ∧ ∀ i n H, W i n H → (J.stop i H ∧ Q (.ref D) H) ∨
  (J.go i H ∧ ∃ N1 : Hp → Prop, (∀ H', N1 H' → ∃ n', n' < n ∧ W (i + 1) n' H') ∧ ∀ x H', J.yld i H x H' → c.g x (wipe σ c.vs) H' fun σ2 H2 => wipe σ2 c.vs = wipe σ c.vs ∧ c.tt σ2 H2 fun b H3 => if b = true then bodyN te D cs σ2 H3 N1 else N1 H3)
section
variable {X : Cx}
theorem pe_lcN {elt : Expr} {q : Comprehension} {qs : List Comprehension} {sc : Scope} {own : List (Str × Nat)} {p : Pos} {c : Cl} {cs : List Cl} {te : TE} (calm : X.calm = true) (nd : X.N.Nodup) (as : q.is_async = 0) (hi : PI X q.target q.iter c.wi) (hf : ∀ x, foldedSetIterable q.iter X.env x = pure x)
    (ok : BlkOk X.N X.env.scope sc own) (hvs : c.vs = own.map (·.2)) (hch : Chain (c :: cs)) (hg : ∀ s H C cl fp, PG (X.blk s H sc (compEnvC sc cl C X.env) fp) q.target c.g) (ht : ∀ s H C cl fp, PTs (X.blk s H sc (compEnvC sc cl C X.env) fp) q.ifs c.tt)
    (hcs : ∀ s H C cl fp, Paired (ClOk (X.blk s H sc (compEnvC sc cl C X.env) fp)) qs cs) (he : ∀ s H C cl fp, PE (X.blk s H sc (compEnvC sc cl C X.env) fp) elt te) : PE X (.ListComp elt (q :: qs) sc p) (tLcN c cs te) := by
  obtain ⟨t, i, ifs, a0⟩ := q
  have as' : a0 = 0 := as
  subst as'
  refine ⟨fun pins s σ H Q I h => ?_⟩
  rw [arm_eval_ListComp]
  have clo : ∀ y ∈ sc.names, y.2 = .free → ∃ z, X.env.cells.lookup y.1 = some z := fun y hy e => (ok.free y hy e).elim (fun k => I.ok.has _ (.inl k)) fun k => I.ok.has _ (.inr k)
  show wpAny _ _ (comprehension (.ListComp elt (⟨t, i, ifs, 0⟩ :: qs) sc p) sc X.env (firstIterPos (⟨t, i, ifs, 0⟩ :: qs) p) (newList []) false (eval i X.env)) _ _ _
  refine wpAny_comprehension_free (use := none) rfl hf (closure_ok clo) ok.kind (fun y hy e => by rw [ok.uniq y hy, e]) (thn (hi.run pins s σ H _ I h) fun _ s1 hx => thn hx fun _ s2 ⟨a, fp, tn, J, H2, ea, I2, T, st2, f2, qq⟩ => ?_)
  subst ea
  refine wpAny_newObj_type (newEnv_comp ?_) (by show 0 ≤ sizeLine; decide)
  obtain ⟨D, hD⟩ : ∃ D, D = s2.heap.objs.size := ⟨_, rfl⟩
  rw [← hD]
  have nD : H2 D = none := I2.hok.fresh (Nat.le_of_eq hD.symm)
  obtain ⟨W, ⟨m0, w0⟩, turn⟩ := qq D nD
  have I3 : Inv X pins σ (upd H2 D (.lst [])) ⟨s2.heap.push { cls := .type "list", data := .seq ([] : List Value).toArray }, s2.gens, s2.drawn, s2.toks, s2.os⟩ := by
    refine I2.laid (t' := s2.toks) (fun b o e => Heap.get?_push_of_some _ e) (Nat.le_of_eq hD.symm) ⟨Nat.zero_le _, [], 0, .nil, ?_⟩
    rw [hD]
    exact Heap.get?_push_size _ rfl
  have live : ∀ b ∈ fp, b < s2.heap.objs.size := fun b hb => (T.obj _ _ st2 b hb).elim fun o e => Heap.lt_size e.1
  have f3 : ∀ b ∈ fp, FpOk X pins (upd H2 D (.lst [])) b ∧ b < (s2.heap.push { cls := .type "list", data := .seq ([] : List Value).toArray }).objs.size := fun b hb =>
    ⟨⟨(upd_ne (by rw [hD]; exact Nat.ne_of_lt (live b hb))).trans (f2 b hb).1, (f2 b hb).2⟩, by rw [Heap.size_push]; exact Nat.lt_succ_of_lt (live b hb)⟩
  have st3 : tn 0 (s2.heap.push { cls := .type "list", data := .seq ([] : List Value).toArray }) := T.keep _ _ _ st2 fun b _ o e => Heap.get?_push_of_some _ e
  have I4 := block_start I3 ok nd f3
  generalize hs3 : (⟨s2.heap.push { cls := .type "list", data := .seq ([] : List Value).toArray }, s2.gens, s2.drawn, s2.toks, s2.os⟩ : Shared) = s3 at I3 I4 ⊢
  have h3 : s3.heap = s2.heap.push { cls := .type "list", data := .seq ([] : List Value).toArray } := by rw [← hs3]
  rw [← h3] at f3 st3
  have pg := hg s3 (upd H2 D (.lst [])) s3.heap.objs.size (cellsFrom (s3.heap.objs.size + 1) sc.names (cloFrom X.env.cells sc.names [])) fp
  have pt := ht s3 (upd H2 D (.lst [])) s3.heap.objs.size (cellsFrom (s3.heap.objs.size + 1) sc.names (cloFrom X.env.cells sc.names [])) fp
  have pc := hcs s3 (upd H2 D (.lst [])) s3.heap.objs.size (cellsFrom (s3.heap.objs.size + 1) sc.names (cloFrom X.env.cells sc.names [])) fp
  have pe := he s3 (upd H2 D (.lst [])) s3.heap.objs.size (cellsFrom (s3.heap.objs.size + 1) sc.names (cloFrom X.env.cells sc.names [])) fp
  have unt : ∀ b ∈ fp, (upd H2 D (.lst [])) b = none := fun b hb => (f3 b hb).1.1
  show codeAny _ _ (.compStart (.ListComp elt (⟨t, i, ifs, 0⟩ :: qs) sc p) 0 (.ref a) (.ref D) (compEnvC sc (cellsFrom (s3.heap.objs.size + 1) sc.names (cloFrom X.env.cells sc.names [])) s3.heap.objs.size X.env)) _ ({ s3 with heap := pushCells (s3.heap.push { cls := .type "dict", data := .dict #[] }) sc.names } : Shared)
  obtain ⟨ce, hce⟩ : ∃ z, z = compEnvC sc (cellsFrom (s3.heap.objs.size + 1) sc.names (cloFrom X.env.cells sc.names [])) s3.heap.objs.size X.env := ⟨_, rfl⟩
  rw [← hce] at I4 pg pt pc pe ⊢
  have cL : ce.locals = s3.heap.objs.size := by rw [hce] <;> rfl
  obtain ⟨H3, hH3⟩ : ∃ G, G = upd H2 D (.lst []) := ⟨_, rfl⟩
  rw [← hH3] at I3 I4 pg pt pc pe w0 unt f3
  generalize hs4 : ({ s3 with heap := pushCells (s3.heap.push { cls := .type "dict", data := .dict #[] }) sc.names } : Shared) = s4 at I4 ⊢
  rw [← hvs] at I4
  have st4 : tn 0 s4.heap := T.keep _ _ _ st3 fun b _ o e => by
    rw [← hs4]
    exact pushCells_keeps _ _ _ _ (Heap.get?_push_of_some _ e)
  have pinned : ∀ {σ' : L2.St} {G : Hp} {t : Shared}, Inv (X.blk s3 H3 sc ce fp) [] σ' G t → (∀ b ∈ fp, G b = none) → ∀ b ∈ fp, FpOk (X.blk s3 H3 sc ce fp) [] G b := fun {σ' G t} J' hn b hb =>
    ⟨hn b hb, (J'.ok.exf b hb).1, J'.ok.exfs b hb, .inl hb, fun x z e => (J'.ok.exf b hb).2 x z e, fun r hr => absurd (show r ∈ ([] : List (Addr × Obj)) ++ [] from hr) (by simp)⟩
  have asy : ∀ r ∈ qs, r.is_async = 0 := by
    have go : ∀ {Y : Cx} {qs : List Comprehension} {cs : List Cl}, Paired (ClOk Y) qs cs → ∀ r ∈ qs, r.is_async = 0 := by
      intro Y qs cs h
      induction h with
      | nil => intro r hr; exact nomatch hr
      | cons h _ ih =>
        intro r hr
        rcases List.mem_cons.mp hr with rfl | hr
        · exact h.sync
        · exact ih r hr
    exact go pc
  have loop : codeAny (model X.prog X.w) X.A (.compLoop (.ListComp elt (⟨t, i, ifs, 0⟩ :: qs) sc p) 0 (.ref a) (.ref D) ce) (compPost (model X.prog X.w) X.A X.xe none (EP X pins σ Q) (.ref D) s3.heap.objs.size) s4 := by
    refine loop_gen (M := goesK (.ListComp elt (⟨t, i, ifs, 0⟩ :: qs) sc p) elt (.ref D) ce 0 qs) (fun it => turnK rfl as rfl asy) (fun n t => ∃ i G, Inv (X.blk s3 H3 sc ce fp) [] (wipe σ c.vs) G t ∧ tn i t.heap ∧ (∀ b ∈ fp, G b = none) ∧ W i n G) ?_ m0 ⟨0, H3, I4, st4, unt, w0⟩
    rintro n t5 ⟨i, H5, I5, st5, n5, w5⟩
    rcases turn i n H5 w5 with ⟨stop, nx⟩ | ⟨go, N1, hN, step⟩
    · refine thnF (T.done (X.blk s3 H3 sc ce fp) rfl rfl rfl calm i [] t5 _ H5 (fun _ _ => False) I5 (pinned I5 n5) st5 stop) fun r t6 ⟨hr, I6⟩ => ?_
      subst hr
      have nC : H5 s3.heap.objs.size = none := by
        have z : H5 ce.locals = none := I6.free
        rwa [cL] at z
      obtain ⟨mm, hn, _⟩ := I6.loc
      have hn' : t6.heap.Ns ce.locals mm := hn
      rw [cL] at hn'
      have I7 : Inv X pins σ H5 t6 := I3.call' (ch := fp) I6.os I6.base I6.hok I6.bare fun b hb => ⟨(f3 b hb).1.2.2.2.1, (f3 b hb).1.2.1, (f3 b hb).1.2.2.2.2.1, (f3 b hb).1.2.2.2.2.2⟩
      refine ⟨mm, hn', fun h2 sb => ?_⟩
      obtain ⟨f0, f1, f2, f3, f4, f5⟩ := I3.fpOk (Nat.le_refl _) nC
      exact ⟨.ref D, H5, I7.turned (t' := t6.toks) (fun b o hb e => (sb.2 b hb).trans e) f0 f1 f3 f4 f5, rfl, nx⟩
    · refine thnF (T.item (X.blk s3 H3 sc ce fp) rfl rfl rfl calm i [] t5 _ H5 (fun _ _ => False) I5 (pinned I5 n5) st5 go) fun r t6 ⟨u, hr, h6⟩ => ?_
      subst hr
      refine thnF h6 fun _ t7 ⟨x, H7, I7, r7, y7, st7, n7⟩ => ?_
      refine thnF (pg.run _ t7 _ H7 x u _ (I7.pinned (pinned I7 n7) (T.obj _ _ st7)) r7 (step x H7 y7)) fun _ t8 ⟨σ8, H8, I8, hw8, q8⟩ => ?_
      refine thnF (pt.run _ t8 σ8 H8 _ I8 q8) fun b t9 ⟨H9, I9, q9⟩ => ?_
      have back : ∀ {t : Shared} {G : Hp} {τ : L2.St}, Inv (X.blk s3 H3 sc ce fp) ([] ++ pinsAt fp t7.heap) τ G t → (wipe σ c.vs).length = τ.length → (∀ (i : Nat) v, (wipe σ c.vs)[i]? = some (some v) → τ[i]? = some (some v)) → N1 G → ∃ m, m < n ∧ ∃ i G, Inv (X.blk s3 H3 sc ce fp) [] (wipe σ c.vs) G t ∧ tn i t.heap ∧ (∀ b ∈ fp, G b = none) ∧ W i m G := fun {t G τ} J' hl hk nx => by
        obtain ⟨m', lt, w'⟩ := hN G nx
        have held : ∀ b ∈ fp, ∀ o, t7.heap.get? b = some o → t.heap.get? b = some o ∧ G b = none := fun b hb o e =>
          have z := J'.pin (b, o) (List.mem_append_right _ (List.mem_append_right _ (mem_pinsAt hb e)))
          ⟨z.1, z.2.1⟩
        refine ⟨m', lt, i + 1, G, (J'.unpinned (pins := [])).weak hl hk, T.keep _ _ _ st7 fun b hb o e => (held b hb o e).1, fun b hb => ?_, w'⟩
        obtain ⟨o, e, _⟩ := T.obj _ _ st7 b hb
        exact (held b hb o e).2
      have l8 : (wipe σ c.vs).length = σ8.length := by rw [← hw8, wipe_length]
      have k8 : ∀ (i : Nat) v, (wipe σ c.vs)[i]? = some (some v) → σ8[i]? = some (some v) ∧ i ∉ c.vs := fun i v e => by
        rw [← hw8] at e
        exact wipe_some e
      cases b with
      | false => exact back I9 l8 (fun i v e => (k8 i v e).1) q9
      | true =>
        intro more Qf hm
        refine body_ok (Y := X.blk s3 H3 sc ce fp) calm (fun _ _ z => z) pe cs qs 0 rfl pc hch.2 ([] ++ pinsAt fp t7.heap) t9 σ8 H9 N1 I9 q9 more Qf _ fun t G J nx => hm t (back J (l8.trans (wipe_length σ8 _).symm) (fun i v e => ?_) nx)
        obtain ⟨e1, e2⟩ := k8 i v e
        rw [wipe_out fun z => e2 (hch.1 i z)]
        exact e1
  exact codeAny_compStart_list loop (T.self X.A 0 _ _ _ st4 loop)
end
end Yt

set_option Elab.async false
set_option linter.all false
set_option maxRecDepth 100000
set_option maxHeartbeats 2000000
namespace Yt
open PySem PySem.Spec PyProof.Rows L2
abbrev sThreesOf : Stmt := top 17
/-- a clause over what is walked: Pv by the turn -/
theorem nest_it {J : It} {n : Nat} {G : Hp → Prop} {S : Nat → Hp → V → Hp → Prop} (w : Walk J n G S) {te : TE} {D : Addr} {c : Cl} {cs : List Cl} {σ : L2.St} {H1 : Hp} {N : Hp → Prop} (Pv : Nat → Hp → Prop) (h0 : Pv 0 H1) (hG : ∀ i H, i ≤ n → Pv i H → G H)
    (hs : ∀ i x H H', i < n → Pv i H → S i H x H' → c.g x (wipe σ c.vs) H' fun σ3 H5 => wipe σ3 c.vs = wipe σ c.vs ∧ c.tt σ3 H5 fun b H6 => if b = true then bodyN te D cs σ3 H6 (Pv (i + 1)) else Pv (i + 1) H6) (hd : ∀ H, Pv n H → N H) :
    ∃ W : Nat → Nat → Hp → Prop, (∃ m, W 0 m H1) ∧ ∀ j k H, W j k H → (J.stop j H ∧ N H) ∨
      (J.go j H ∧ ∃ N1 : Hp → Prop, (∀ H', N1 H' → ∃ k', k' < k ∧ W (j + 1) k' H') ∧ ∀ x H', J.yld j H x H' → c.g x (wipe σ c.vs) H' fun σ3 H5 => wipe σ3 c.vs = wipe σ c.vs ∧ c.tt σ3 H5 fun b H6 => if b = true then bodyN te D cs σ3 H6 N1 else N1 H6) := by
  refine ⟨fun i m H => m = n - i ∧ i ≤ n ∧ Pv i H, ⟨_, rfl, Nat.zero_le _, h0⟩, ?_⟩
  rintro i m H ⟨rfl, le, pv⟩
  rcases Nat.lt_or_ge i n with lt | ge
  · exact .inr ⟨w.goes i H lt (hG i H le pv), Pv (i + 1), fun H' p' => ⟨n - (i + 1), by omega, rfl, lt, p'⟩, fun x H' y => hs i x H H' lt pv (w.yields i H x H' lt (hG i H le pv) y)⟩
  · obtain rfl : i = n := Nat.le_antisymm le ge
    exact .inl ⟨w.stops H (hG _ H le pv), hd H pv⟩
def row2 (ms : List Str) (a b : Str) : List (List Key) := ms.map fun c => [Sum.inr a, Sum.inr b, Sum.inr c]
def row1 (ms : List Str) (a : Str) : List (List Key) := ms.flatMap (row2 ms a)
theorem rows_growN (ms : List Str) : ms.flatMap (row1 ms) = growN ms 3 := by
  have g1 : ∀ s : List Key, grow ms [s] = ms.map fun c => s ++ [Sum.inr c] := fun s => by
    unfold grow
    rw [List.flatMap_cons, List.flatMap_nil, List.append_nil]
  have gm : ∀ (l : List Str) (h : Str → List Key), grow ms (l.map h) = l.flatMap fun c => grow ms [h c] := fun l h => by
    induction l with
    | nil => rfl
    | cons x l ih =>
      rw [List.map_cons, show h x :: l.map h = [h x] ++ l.map h from rfl, grow_append, ih, List.flatMap_cons]
  have gf : ∀ (l : List Str) (h : Str → List (List Key)), grow ms (l.flatMap h) = l.flatMap fun c => grow ms (h c) := fun l h => by
    induction l with
    | nil => rfl
    | cons x l ih => rw [List.flatMap_cons, grow_append, ih, List.flatMap_cons]
  show _ = grow ms (grow ms (grow ms [[]]))
  rw [g1, gm, gf]
  congr 1
  funext a
  rw [g1, gm]
  unfold row1
  congr 1
  funext b
  rw [g1]
  rfl
theorem take_flat {α β : Type} (xs : List α) (h : α → List β) {i : Nat} {x : α} (e : xs[i]? = some x) : (xs.take (i + 1)).flatMap h = (xs.take i).flatMap h ++ h x := by
  rw [List.take_add_one, e, List.flatMap_append]
  show _ ++ ([x] : List α).flatMap h = _
  rw [List.flatMap_cons, List.flatMap_nil, List.append_nil]
/-- the rows that are done stand in the list at D -/
def Done (D : Addr) (H0 : Hp) (L : List (List Key)) (Hx : Hp) : Prop := ∃ ts : List Addr, Hx D = some (.lst (ts.map V.ref)) ∧ Paired (fun t k => t ≠ D ∧ TupAt Hx t k) ts L ∧ Same H0 Hx
section
variable {P : Program} {w : World} {K : PySem.W.Frag} {mg : Str → Option Value} {base : Heap} {f : Addr} {fd : FuncData}
theorem scThreesOf : FnScope ["marks", "first", "second", "third"] ["marks"] (defScope sThreesOf) := ⟨rfl, rfl, rfl, by decide +kernel, rfl, by decide +kernel, by decide +kernel⟩
abbrev clF (K : PySem.W.Frag) : Cl := ⟨iList K (tVar 0), gName 1, tYes, [1, 2, 3]⟩
abbrev clS (K : PySem.W.Frag) : Cl := ⟨iList K (tVar 0), gName 2, tYes, [2, 3]⟩
abbrev clT (K : PySem.W.Frag) : Cl := ⟨iList K (tVar 0), gName 3, tYes, [3]⟩
theorem chain3 {K : PySem.W.Frag} : Chain [clF K, clS K, clT K] :=
  And.intro (fun i h => (show ∀ i ∈ ([2, 3] : List Nat), i ∈ ([1, 2, 3] : List Nat) by decide) i h) (And.intro (fun i h => (show ∀ i ∈ ([3] : List Nat), i ∈ ([2, 3] : List Nat) by decide) i h) (And.intro (fun i h => nomatch (show i ∈ ([] : List Nat) from h)) trivial))
theorem ok_threesof (F : FnP K "threes_of" sThreesOf f fd) : FnOk P w K mg base CX0 1 f fd ["marks"] (spThrees K) := by
  refine F.ok scThreesOf (fun vs H Q E h => ?_) (fun cdv A outer s H vs Q E hr h => ?_)
  · obtain ⟨a, ms, rfl, _⟩ := h
    rfl
  · obtain ⟨a, ms, rfl, hS, few, k⟩ := h
    refine ⟨_, PSs.nox (pss_one (ps_ret (pe_lcN (c := clF K) (cs := [clS K, clT K]) (te := tTup (tCons (tVar 1) (tCons (tVar 2) (tCons (tVar 3) tNil)))) (own := [("first", 1), ("second", 2), ("third", 3)]) rfl scThreesOf.nd rfl (pi_list (pv 0)) (by intro _; rfl) (blkOk_by (own := [("first", 1), ("second", 2), ("third", 3)]) (N := ["marks", "first", "second", "third"]) (sc := defScope sThreesOf) (by decide +kernel)) rfl
      chain3 (fun _ _ _ _ _ => pg_name (i := 1) scThreesOf.nd rfl (Or.inl rfl)) (fun _ _ _ _ _ => pts_nil)
      (fun _ _ _ _ _ => .cons ⟨rfl, pi_list (pv 0), pg_name (i := 2) scThreesOf.nd rfl (Or.inl rfl), pts_nil, by intro _; rfl⟩ (.cons ⟨rfl, pi_list (pv 0), pg_name (i := 3) scThreesOf.nd rfl (Or.inl rfl), pts_nil, by intro _; rfl⟩ .nil))
      (fun _ _ _ _ _ => pe_tup (pa_cons (pv 1) (pa_cons (pv 2) (pa_cons (pv 3) pa_nil))))))), ?_⟩
    have at_ : ∀ {i : Nat} {x : V}, (ms.map V.str)[i]? = some x → ∃ z, ms[i]? = some z ∧ V.str z = x := fun e => by
      rw [List.getElem?_map] at e
      exact Option.map_eq_some_iff.mp e
    have ml : (ms.map V.str).length = ms.length := List.length_map _
    refine ⟨_, rfl, a, rfl, ⟨_, hS⟩, fun D hD => ?_⟩
    have fl : ∀ (l : List Str) (h : Str → List (List Key)) (n : Nat), (∀ z, (h z).length ≤ n) → (l.flatMap h).length ≤ l.length * n := fun l h n hn => by
      induction l with
      | nil => simp
      | cons x l ih =>
        have := hn x
        rw [List.flatMap_cons, List.length_append, List.length_cons, Nat.add_mul]
        omega
    have r2 : ∀ x y, (row2 ms x y).length ≤ 5 := fun x y => by
      unfold row2
      rw [List.length_map]
      exact few
    have r1 : ∀ x, (row1 ms x).length ≤ 25 := fun x => by
      have := fl ms (row2 ms x) 5 (r2 x)
      unfold row1
      omega
    refine nest_it (c := clF K) (walk_list (K := K) (a := a) (xs := ms.map V.str)) (fun i Hx => Done D H ((ms.take i).flatMap (row1 ms)) Hx) ⟨[], upd_same, .nil, same_new hD⟩ (fun i Hx _ ⟨_, _, _, z⟩ => z.seq hS) ?_ ?_
    · rintro i x Hx H' hi hdone ⟨rfl, ex⟩
      obtain ⟨za, ea, rfl⟩ := at_ ex
      refine ⟨rfl, ?_⟩
      obtain ⟨_, _, _, zz⟩ := id hdone
      refine ⟨_, rfl, a, rfl, ⟨_, zz.seq hS⟩, nest_it (c := clS K) (walk_list (K := K) (a := a) (xs := ms.map V.str)) (fun j Hx => Done D H ((ms.take i).flatMap (row1 ms) ++ (ms.take j).flatMap (row2 ms za)) Hx) ?_ (fun j Hx _ ⟨_, _, _, z⟩ => z.seq hS) ?_ ?_⟩
      · show Done D H (_ ++ []) _
        rw [List.append_nil]
        exact hdone
      · rintro j x Hy H' hj hdone2 ⟨rfl, ex2⟩
        obtain ⟨zb, eb, rfl⟩ := at_ ex2
        refine ⟨rfl, ?_⟩
        obtain ⟨_, _, _, zz2⟩ := id hdone2
        refine ⟨_, rfl, a, rfl, ⟨_, zz2.seq hS⟩, nest_it (c := clT K) (walk_list (K := K) (a := a) (xs := ms.map V.str)) (fun l Hx => Done D H ((ms.take i).flatMap (row1 ms) ++ (ms.take j).flatMap (row2 ms za) ++ (ms.take l).map fun c => [Sum.inr za, Sum.inr zb, Sum.inr c]) Hx) ?_ (fun l Hx _ ⟨_, _, _, z⟩ => z.seq hS) ?_ ?_⟩
        · show Done D H (_ ++ []) _
          rw [List.append_nil]
          exact hdone2
        · rintro l x Hz H' hl ⟨ts, q1, q2, q3⟩ ⟨rfl, ex3⟩
          obtain ⟨zc, ec, rfl⟩ := at_ ex3
          refine ⟨rfl, ?_⟩
          refine ⟨_, rfl, _, rfl, _, rfl, (by show 3 ≤ sizeLine; decide), fun t nt => ?_⟩
          have st := same_new (o := .tup [V.str za, V.str zb, V.str zc]) nt
          have tD : t ≠ D := fun q => by
            rw [q, q1] at nt
            cases nt
          have few1 : ts.length ≤ 300 := by
            rw [Paired.length q2, List.length_append, List.length_append, List.length_map]
            have h1 := fl (ms.take i) (row1 ms) 25 r1
            have h2 := fl (ms.take j) (row2 ms za) 5 (r2 za)
            have h3 : (ms.take i).length ≤ 5 := by rw [List.length_take]; omega
            have h4 : (ms.take j).length ≤ 5 := by rw [List.length_take]; omega
            have h5 : (ms.take l).length ≤ 5 := by rw [List.length_take]; omega
            omega
          refine ⟨_, st _ _ q1, ?_, ts ++ [t], by rw [upd_same, List.map_append] <;> rfl, ?_, fun b o e => (upd_ne (ne_of_none e hD)).trans (st _ _ (q3 _ _ e))⟩
          · rw [List.length_map]
            exact len_ok (by omega)
          · have et : (ms.take (l + 1)).map (fun c => ([Sum.inr za, Sum.inr zb, Sum.inr c] : List Key)) = (ms.take l).map (fun c => [Sum.inr za, Sum.inr zb, Sum.inr c]) ++ [[Sum.inr za, Sum.inr zb, Sum.inr zc]] := by
              rw [List.take_add_one, ec, List.map_append] <;> rfl
            rw [et, ← List.append_assoc]
            exact Paired.snoc (Paired.mapP q2 fun t' kk h => ⟨h.1, (upd_ne h.1).trans (st _ _ h.2)⟩) ⟨tD, (upd_ne tD).trans upd_same⟩
        · intro Hz hz
          rw [ml, List.take_length] at hz
          rw [take_flat ms (row2 ms za) eb, ← List.append_assoc]
          exact hz
      · intro Hy hy
        rw [ml, List.take_length] at hy
        rw [take_flat ms (row1 ms) ea]
        exact hy
    · intro Hx hx
      rw [ml, List.take_length, rows_growN] at hx
      obtain ⟨ts, q1, q2, q3⟩ := hx
      exact k D ts Hx hD q1 (Paired.mapP q2 fun t kk h => h.2) q3
end
end Yt

set_option Elab.async false
set_option linter.all false
set_option maxRecDepth 100000
set_option maxHeartbeats 2000000
namespace Yt
open PySem PySem.Spec PyProof.Rows L2
abbrev sIsCount : Stmt := top 8
abbrev sPicker : Stmt := top 23
def spNon (R : Hp → List V → Prop) : Sp := fun vs H Q _ => R H vs ∧ ∀ H', Same H H' → Q .non H'
section
variable {P : Program} {w : World} {K : PySem.W.Frag} {mg : Str → Option Value} {base : Heap} {f : Addr} {fd : FuncData}
theorem scIsCount : FnScope ["value"] ["value"] (defScope sIsCount) := ⟨rfl, rfl, rfl, by decide +kernel, rfl, by decide +kernel, by decide +kernel⟩
theorem ok_iscount (F : FnP K "is_count" sIsCount f fd) (T : Nm mg) (T6 : Nm6 mg) : FnOk P w K mg base CX0 1 f fd ["value"] (spYes fun _ vs => ∃ n : Int, vs = [.int n] ∧ 0 ≤ n) := by
  refine F.ok scIsCount (fun vs H Q E h => ?_) (fun cdv A outer s H vs Q E hr h => ?_)
  · obtain ⟨⟨n, rfl, _⟩, _⟩ := h
    rfl
  · obtain ⟨⟨n, rfl, hn⟩, k⟩ := h
    refine ⟨_, PSs.nox (pss_one (ps_ret (pe_and (pe_callB call_isi (by rfl) T6.isi (by decide +kernel) (pa_cons (pv 0) (pa_cons (pe_bltn (v := .ty "int") (u := .type "int") (by rfl) T.int (by decide +kernel) rfl) pa_nil)))
      (pe_and (pe_not (pe_callB call_isi (by rfl) T6.isi (by decide +kernel) (pa_cons (pv 0) (pa_cons (pe_bltn (v := .ty "bool") (u := .type "bool") (by rfl) T6.bool (by decide +kernel) rfl) pa_nil)))) (pe_one (pe_cmpR op_ge (pv 0) pe_int (nomark _))))))), ?_⟩
    refine ⟨_, rfl, _, _, .type "int", _, true, rfl, .ty _, .base (.int _), kit_ty (by decide +kernel), true, rfl, ?_⟩
    refine iteT ?_
    refine ⟨_, rfl, _, _, .type "int", _, false, rfl, .ty _, .base (.int _), kit_ty (by decide +kernel), _, rfl, true, rfl, ?_⟩
    refine iteT ?_
    refine ⟨_, rfl, _, _, rfl, rfl, ?_⟩
    show Q (.bl (decide (n ≥ 0))) H
    rw [decide_eq_true (show n ≥ 0 from hn)]
    exact k H fun _ _ e => e
theorem scCheckMarks : FnScope ["marks"] ["marks"] (defScope sCheckMarks) := ⟨rfl, rfl, rfl, by decide +kernel, rfl, by decide +kernel, by decide +kernel⟩
theorem ok_checkmarks {fA : Addr} {fdA : FuncData} (F : FnP K "check_marks" sCheckMarks f fd) (GA : FnOk P w K mg base CX0 2 fA fdA ["value"] (spYes fun H vs => ∃ a ms, vs = [.ref a] ∧ H a = some (.lst (ms.map V.str)) ∧ MarksOk ms)) (bA : Binds K fdA ["value"] []) (kA : PySem.W.keepIn K (.ref fA) = true) (gA : mg "are_marks" = some (.ref fA)) :
    FnOk P w K mg base CX0 3 f fd ["marks"] (spNon fun H vs => ∃ a ms, vs = [.ref a] ∧ H a = some (.lst (ms.map V.str)) ∧ MarksOk ms) := by
  refine F.ok scCheckMarks (fun vs H Q E h => ?_) (fun cdv A outer s H vs Q E hr h => ?_)
  · obtain ⟨⟨a, ms, rfl, _⟩, _⟩ := h
    rfl
  · obtain ⟨⟨a, ms, rfl, ha, hm⟩, k⟩ := h
    refine ⟨_, PSs.nox (pss_one (ps_if (pt_not (pt_val (pe_call GA hr rfl gA kA bA .nil pass0 (pa_cons (pv 0) pa_nil)))) (pss_one ps_never) pss_nil)), ?_⟩
    refine ⟨_, rfl, ⟨a, ms, rfl, ha, hm⟩, fun H1 s1 => ⟨true, rfl, ?_⟩⟩
    refine iteF ?_
    exact k H1 s1
theorem grow_nodup {ms : List Str} (hm : ms.Nodup) {L : List (List Key)} (hL : L.Nodup) : (grow ms L).Nodup := by
  unfold grow
  refine List.pairwise_flatMap.mpr ⟨fun s _ => ?_, List.Pairwise.imp (fun {s t} ne x hx y hy e => ?_) hL⟩
  · refine List.pairwise_map.mpr (List.Pairwise.imp (fun {c d} ne e => ne ?_) hm)
    have := List.append_cancel_left e
    simpa using this
  · obtain ⟨c, _, rfl⟩ := List.mem_map.mp hx
    obtain ⟨d, _, rfl⟩ := List.mem_map.mp hy
    exact ne (List.append_inj' e rfl).1
theorem growN_nodup {ms : List Str} (hm : ms.Nodup) : ∀ n, (growN ms n).Nodup
  | 0 => List.pairwise_singleton _ _
  | n + 1 => grow_nodup hm (growN_nodup hm n)
/-- a way in the heap: what it gives of each row of three, in their order -/
def wayOf (ms : List Str) (g : List Key → V) : List (List Key × V) := (growN ms 3).map fun k => (k, g k)
def pick (n : Nat) (k : List Key) : V := (k.map kV).getD n .non
def spPicker : Sp := fun vs H Q _ => ∃ (a : Addr) (ms : List Str) (n : Nat), vs = [.ref a, .int n] ∧ H a = some (.lst (ms.map V.str)) ∧ MarksOk ms ∧ n ≤ 2 ∧
  ∀ (L : Addr) (H' : Hp), H L = none → H' L = some (.dT (wayOf ms (pick n))) → Same H H' → Q (.ref L) H'
theorem scPicker : FnScope ["marks", "number", "three"] ["marks", "number"] (defScope sPicker) := ⟨rfl, rfl, rfl, by decide +kernel, rfl, by decide +kernel, by decide +kernel⟩
theorem ok_picker {fC fN fT : Addr} {dC dN dT : FuncData} (F : FnP K "picker" sPicker f fd)
    (GC : FnOk P w K mg base CX0 3 fC dC ["marks"] (spNon fun H vs => ∃ a ms, vs = [.ref a] ∧ H a = some (.lst (ms.map V.str)) ∧ MarksOk ms)) (bC : Binds K dC ["marks"] []) (kC : PySem.W.keepIn K (.ref fC) = true) (gC : mg "check_marks" = some (.ref fC))
    (GN : FnOk P w K mg base CX0 1 fN dN ["value"] (spYes fun _ vs => ∃ n : Int, vs = [.int n] ∧ 0 ≤ n)) (bN : Binds K dN ["value"] []) (kN : PySem.W.keepIn K (.ref fN) = true) (gN : mg "is_count" = some (.ref fN))
    (GT : FnOk P w K mg base CX0 1 fT dT ["marks"] (spThrees K)) (bT : Binds K dT ["marks"] []) (kT : PySem.W.keepIn K (.ref fT) = true) (gT : mg "threes_of" = some (.ref fT)) :
    FnOk P w K mg base CX0 4 f fd ["marks", "number"] spPicker := by
  refine F.ok scPicker (fun vs H Q E h => ?_) (fun cdv A outer s H vs Q E hr h => ?_)
  · obtain ⟨a, ms, n, rfl, _⟩ := h
    rfl
  · obtain ⟨a, ms, n, rfl, ha, hm, hn, k⟩ := h
    have hu := hu_of hr
    refine ⟨_, PSs.nox (pss_cons (ps_expr (pe_call GC hr rfl gC kC bC .nil pass0 (pa_cons (pv 0) pa_nil)))
      (pss_cons (ps_if (PW.pt (pw_or (pt_not (pt_val (pe_call GN (hr.mono (by decide)) rfl gN kN bN .nil pass0 (pa_cons (pv 1) pa_nil)))) (pw_or1 (pt_cmpR op_gt (pv 1) pe_int (nomark _))))) (pss_one ps_never) pss_nil)
      (pss_one (ps_ret (pe_dcT (own := [("three", 2)]) (g := gName 2) (tt := tYes) (tk := tVar 2) (tv := tOp (rIxT K) (tVar 2) (tVar 1)) rfl scPicker.nd (Nat.lt_of_succ_lt hu) (pi_list (pe_call GT (hr.mono (by decide)) rfl gT kT bT .nil pass0 (pa_cons (pv 0) pa_nil))) (blkOk_by (own := [("three", 2)]) (N := ["marks", "number", "three"]) (sc := defScope sPicker) (by decide +kernel))
        (fun _ _ _ _ _ => pg_name (i := 2) scPicker.nd rfl (Or.inl rfl)) (fun _ _ _ _ _ => pts_nil) (fun _ _ _ _ _ => pv 2) (fun _ _ _ _ _ => pe_ix ix_tup (pv 2) (pv 1) (fun _ _ => rfl))))))), ?_⟩
    refine ⟨_, rfl, ⟨a, ms, rfl, ha, hm⟩, fun H1 s1 => ?_⟩
    refine ⟨_, rfl, ⟨n, rfl, by omega⟩, fun H2 s2 => ⟨true, rfl, ?_⟩⟩
    refine iteF ?_
    refine ⟨_, rfl, _, _, rfl, rfl, false, by show V.bl (decide ((2 : Int) < (n : Nat))) = _; rw [decide_eq_false (show ¬ ((2 : Int) < (n : Nat)) by omega)], ?_⟩
    refine iteF ?_
    have s12 : Same H H2 := fun b o e => s2 _ _ (s1 _ _ e)
    refine ⟨_, rfl, a, ms, rfl, SqL.of (s12 _ _ ha), hm.2.1, fun L ts H3 nL hL hT s3 => ⟨L, rfl, ⟨_, SqL.of hL⟩, fun D hD => ?_⟩⟩
    have nd := growN_nodup hm.2.2.1.nodup 3
    have few : (growN ms 3).length ≤ 125 := by
      rw [growN_len]
      exact Nat.pow_le_pow_left hm.2.1 3
    refine dcT_list (K := K) (a := L) (xs := ts.map V.ref) (fun i Hx => Hx D = some (.dT (((growN ms 3).take i).map fun k => (k, pick n k))) ∧ Same H3 Hx) ⟨upd_same, same_new hD⟩ (fun i Hx _ z => SqL.of (z.2 _ _ hL)) ?_ ?_
    · rintro i x Hx hx ⟨q1, q2⟩
      obtain ⟨t, et, rfl⟩ : ∃ t, ts[i]? = some t ∧ V.ref t = x := by
        rw [List.getElem?_map] at hx
        exact Option.map_eq_some_iff.mp hx
      obtain ⟨kk, ek, ht⟩ := paired_at' hT et
      have ht' := q2 _ _ ht
      have k3 : kk.length = 3 := growN_each ms 3 kk (List.mem_of_getElem? ek)
      obtain ⟨v, hv⟩ : ∃ v, (kk.map kV)[n]? = some v := ⟨_, List.getElem?_eq_getElem (by rw [List.length_map, k3]; omega)⟩
      have ev : pick n kk = v := by
        unfold pick
        rw [List.getD_eq_getElem?_getD, hv] <;> rfl
      refine ⟨rfl, ?_⟩
      refine ⟨_, rfl, _, rfl, _, rfl, t, kk.map kV, (n : Int), v, rfl, rfl, SqT.of ht', atI_nat hv, ?_⟩
      refine ⟨_, kk, t, rfl, ht', q1, ?_, ?_, fun b o e => (upd_ne (ne_of_none e hD)).trans (q2 _ _ e)⟩
      · rw [List.length_map, List.length_take]
        exact len_ok (by omega)
      · have et1 : (growN ms 3).take (i + 1) = (growN ms 3).take i ++ [kk] := by rw [List.take_add_one, ek] <;> rfl
        have fresh : kk ∉ (((growN ms 3).take i).map fun k => (k, pick n k)).map (·.1) := by
          rw [List.map_map]
          intro z
          obtain ⟨k', hk', e'⟩ := List.mem_map.mp z
          have e2 : k' = kk := e'
          rw [e2] at hk'
          rw [← List.take_append_drop (i + 1) (growN ms 3), et1] at nd
          have := (List.nodup_append.mp (List.nodup_append.mp nd).1).2.2 kk hk' kk (List.mem_singleton.mpr rfl)
          exact this rfl
        rw [upd_same, putK_new fresh, et1, List.map_append, ← ev]
        rfl
    · rintro Hx ⟨q1, q2⟩
      rw [List.length_map, Paired.length hT, List.take_length] at q1
      have nD : H D = none := by
        cases e : H D with
        | none => rfl
        | some o =>
          rw [s3 _ _ (s12 _ _ e)] at hD
          cases hD
      exact k D Hx nD q1 fun b o e => q2 _ _ (s3 _ _ (s12 _ _ e))
end
end Yt

set_option Elab.async false
set_option linter.all false
set_option maxRecDepth 100000
set_option maxHeartbeats 2000000
namespace Yt
open PySem PySem.Spec PyProof.Rows L2
abbrev sTwice : Stmt := top 19
def twiceV (x y z : Str) : V := if x = y ∨ x = z then .str x else if y = z then .str y else .non
def spTwice : Sp := fun vs H Q _ => ∃ (t : Addr) (x y z : Str), vs = [.ref t] ∧ H t = some (.tup [.str x, .str y, .str z]) ∧ Q (twiceV x y z) H
section
variable {P : Program} {w : World} {K : PySem.W.Frag} {mg : Str → Option Value} {base : Heap} {f : Addr} {fd : FuncData}
theorem scTwice : FnScope ["three", "first", "second", "third"] ["three"] (defScope sTwice) := ⟨rfl, rfl, rfl, by decide +kernel, rfl, by decide +kernel, by decide +kernel⟩
theorem dec_str (x y : Str) : (V.bl (decide (V.str x = V.str y))) = V.bl (decide (x = y)) := by
  by_cases e : x = y
  · subst e
    simp
  · have : V.str x ≠ V.str y := fun h => e (V.str.inj h)
    simp [e, this]
theorem ok_twice (F : FnP K "mark_twice_in" sTwice f fd) : FnOk P w K mg base CX0 1 f fd ["three"] spTwice := by
  refine F.ok scTwice (fun vs H Q E h => ?_) (fun cdv A outer s H vs Q E hr h => ?_)
  · obtain ⟨t, x, y, z, rfl, _⟩ := h
    rfl
  · obtain ⟨t, x, y, z, rfl, ht, k⟩ := h
    refine ⟨_, PSs.nox (pss_cons (ps_asg (pv 0) (pg_tup rfl (pgs_cons (pg_name (i := 1) scTwice.nd rfl (Or.inl rfl)) (pgs_cons (pg_name (i := 2) scTwice.nd rfl (Or.inl rfl)) (pgs_cons (pg_name (i := 3) scTwice.nd rfl (Or.inl rfl)) pgs_nil)))))
      (pss_cons (ps_if (PW.pt (pw_or (pt_cmpR op_eq (pv 1) (pv 2) (nomark _)) (pw_or1 (pt_cmpR op_eq (pv 1) (pv 3) (nomark _))))) (pss_one (ps_ret (pv 1))) pss_nil)
      (pss_cons (ps_if (pt_cmpR op_eq (pv 2) (pv 3) (nomark _)) (pss_one (ps_ret (pv 2))) pss_nil)
      (pss_one (ps_ret pe_non))))), ?_⟩
    refine ⟨_, rfl, t, _, rfl, SqT.of ht, rfl, _, _, rfl, _, _, rfl, _, _, rfl, rfl, ?_⟩
    refine ⟨_, rfl, _, rfl, rfl, decide (x = y), dec_str x y, ?_⟩
    by_cases e1 : x = y
    · rw [decide_eq_true e1]
      refine iteT ?_
      have : twiceV x y z = .str x := by simp [twiceV, e1]
      rw [this] at k
      exact ⟨_, rfl, k⟩
    · rw [decide_eq_false e1]
      refine iteF ?_
      refine ⟨_, rfl, _, rfl, rfl, decide (x = z), dec_str x z, ?_⟩
      by_cases e2 : x = z
      · rw [decide_eq_true e2]
        refine iteT ?_
        have : twiceV x y z = .str x := by simp [twiceV, e2]
        rw [this] at k
        exact ⟨_, rfl, k⟩
      · rw [decide_eq_false e2]
        refine iteF ?_
        refine ⟨_, rfl, _, rfl, rfl, decide (y = z), dec_str y z, ?_⟩
        by_cases e3 : y = z
        · rw [decide_eq_true e3]
          refine iteT ?_
          have : twiceV x y z = .str y := by
            unfold twiceV
            rw [if_neg (by simp [e1, e2]), if_pos e3]
          rw [this] at k
          exact ⟨_, rfl, k⟩
        · rw [decide_eq_false e3]
          refine iteF ?_
          have : twiceV x y z = .non := by
            unfold twiceV
            rw [if_neg (by simp [e1, e2]), if_neg e3]
          rw [this] at k
          exact k
/-- a way over marks in the heap, its items in whatever order -/
def WayIn (H : Hp) (d : Addr) (ms : List Str) (m : List (List Key × V)) : Prop := H d = some (.dT m) ∧ (m.map (·.1)).Perm (growN ms 3) ∧ ∀ e ∈ m, ∃ z ∈ ms, e.2 = V.str z
theorem WayIn.to {H H' : Hp} {d : Addr} {ms : List Str} {m : List (List Key × V)} (h : WayIn H d ms m) (s : Same H H') : WayIn H' d ms m := ⟨s _ _ h.1, h.2⟩
abbrev sIsWayOver : Stmt := top 20
theorem scIsWayOver : FnScope ["marks", "value", "threes", "three"] ["marks", "value"] (defScope sIsWayOver) := ⟨rfl, rfl, rfl, by decide +kernel, rfl, by decide +kernel, by decide +kernel⟩
theorem ok_iswayover {fT : Addr} {dT : FuncData} (F : FnP K "is_way_over" sIsWayOver f fd) (T : Nm mg) (T6 : Nm6 mg)
    (GT : FnOk P w K mg base CX0 1 fT dT ["marks"] (spThrees K)) (bT : Binds K dT ["marks"] []) (kT : PySem.W.keepIn K (.ref fT) = true) (gT : mg "threes_of" = some (.ref fT)) :
    FnOk P w K mg base CX0 2 f fd ["marks", "value"] (spYes fun H vs => ∃ a d ms m, vs = [.ref a, .ref d] ∧ H a = some (.lst (ms.map V.str)) ∧ MarksOk ms ∧ WayIn H d ms m) := by
  refine F.ok scIsWayOver (fun vs H Q E h => ?_) (fun cdv A outer s H vs Q E hr h => ?_)
  · obtain ⟨⟨a, d, ms, m, rfl, _⟩, _⟩ := h
    rfl
  · obtain ⟨⟨a, d, ms, m, rfl, ha, hm, hd, hp, hv⟩, k⟩ := h
    have hu := hu_of hr
    refine ⟨_, PSs.nox (pss_cons (ps_set (i := 2) scIsWayOver.nd rfl (Or.inl rfl) (pe_call GT hr rfl gT kT bT .nil pass0 (pa_cons (pv 0) pa_nil)))
      (pss_cons (ps_if (PW.pt (pw_or (pt_not (pt_val (pe_callB call_isi (by rfl) T6.isi (by decide +kernel) (pa_cons (pv 1) (pa_cons (pe_bltn (v := .ty "dict") (u := .type "dict") (by rfl) T6.dict (by decide +kernel) rfl) pa_nil)))))
          (pw_or1 (pt_cmpR op_ne (pe_callB call_len_dT (by rfl) T.len PySem.boot_len (pa_cons (pv 1) pa_nil)) (pe_callB call_len (by rfl) T.len PySem.boot_len (pa_cons (pv 2) pa_nil)) (nomark _))))) (pss_one (ps_ret pe_bl)) pss_nil)
      (pss_one (ps_ret (pe_callB (cr_all rfl) (by rfl) T6.all (by decide +kernel) (pa_cons (pe_lc (own := [("three", 3)]) (g := gName 3) (tt := tYes) (te := tAndV (tDIn (tVar 3) (tVar 1)) (tOp (rIn K false) (tDGet (tVar 1) (tVar 3)) (tVar 0))) rfl scIsWayOver.nd (pi_list (pv 2)) (blkOk_by (own := [("three", 3)]) (N := ["marks", "value", "threes", "three"]) (sc := defScope sIsWayOver) (by decide +kernel))
        (fun _ _ _ _ _ => pg_name (i := 3) scIsWayOver.nd rfl (Or.inl rfl)) (fun _ _ _ _ _ => pts_nil) (fun _ _ _ _ _ => pe_and (pe_cmp (pc_din hu (pv 3) (pv 1))) (pe_one (pe_cmpR op_in_seq (pe_dget hu (pv 1) (pv 3) (fun _ _ => rfl)) (pv 0) (by rfl))))) pa_nil)))))), ?_⟩
    have ml : m.length = (growN ms 3).length := by rw [← List.length_map (f := (·.1)), hp.length_eq]
    refine ⟨_, rfl, a, ms, rfl, SqL.of ha, hm.2.1, fun L ts H1 nL hL hT s1 => ?_⟩
    have hd1 := s1 _ _ hd
    refine ⟨_, rfl, _, _, .type "dict", _, true, rfl, .ty _, .base (.dT hd1), kit_ty (by decide +kernel), _, rfl, ?_⟩
    refine iteF ?_
    refine ⟨_, rfl, d, m, rfl, hd1, _, rfl, _, (ts.map V.ref).length, rfl, Or.inl ⟨_, SqL.of hL, rfl⟩, rfl, false, ?_, ?_⟩
    · have : ((m.length : Nat) : Int) = (((ts.map V.ref).length : Nat) : Int) := by rw [List.length_map, Paired.length hT, ml]
      simp [this]
    refine iteF ?_
    refine ⟨_, rfl, L, rfl, ⟨_, SqL.of hL⟩, fun D hD => ?_⟩
    refine lc_list (K := K) (a := L) (xs := ts.map V.ref) (fun i Hx => Hx D = some (.lst ((List.replicate i true).map V.bl)) ∧ Same H1 Hx) ⟨upd_same, same_new hD⟩ (fun i Hx _ z => SqL.of (z.2 _ _ hL)) ?_ ?_
    · rintro i x Hx hx ⟨q1, q2⟩
      obtain ⟨t, et, rfl⟩ : ∃ t, ts[i]? = some t ∧ V.ref t = x := by
        rw [List.getElem?_map] at hx
        exact Option.map_eq_some_iff.mp hx
      have hi : i < ts.length := (List.getElem?_eq_some_iff.mp et).1
      obtain ⟨kk, ek, ht⟩ := paired_at' hT et
      have ht' : TupAt Hx t kk := q2 _ _ ht
      have hdx := q2 _ _ hd1
      have kin : kk ∈ m.map (·.1) := hp.mem_iff.mpr (List.mem_of_getElem? ek)
      obtain ⟨⟨k2, v⟩, hmem, rfl⟩ := List.mem_map.mp kin
      obtain ⟨z, hz, ev⟩ := hv _ hmem
      obtain ⟨j, ej⟩ := List.mem_iff_getElem?.mp hmem
      have gv : valV m k2 = some v := valV_at (hp.nodup_iff.mpr (growN_nodup hm.2.2.1.nodup 3)) ej
      have dg : DGet Hx d (.ref t) (some v) := by
        have := DGet.t hdx ht'
        rw [gv] at this
        exact this
      have ev : v = V.str z := ev
      subst ev
      refine ⟨rfl, ?_⟩
      refine ⟨_, rfl, _, rfl, d, _, rfl, dg, true, rfl, ?_⟩
      refine iteT ?_
      refine ⟨_, rfl, _, rfl, d, _, rfl, dg, _, rfl, a, ms.map V.str, rfl, .inl (SqL.of (q2 _ _ (s1 _ _ ha))), rfl, flat_strs' ms, ?_⟩
      have e1 : (V.bl (if false = true then !inV (V.str z) (ms.map V.str) else inV (V.str z) (ms.map V.str))) = V.bl true := by
        show V.bl (inV (V.str z) (ms.map V.str)) = _
        rw [inV_str, decide_eq_true hz]
      rw [e1]
      have few : (growN ms 3).length ≤ 125 := by
        rw [growN_len]
        exact Nat.pow_le_pow_left hm.2.1 3
      have tl : ts.length = (growN ms 3).length := Paired.length hT
      refine ⟨_, q1, ?_, ?_, fun b o e => (upd_ne (ne_of_none e hD)).trans (q2 _ _ e)⟩
      · rw [List.length_map, List.length_replicate]
        exact len_ok (by omega)
      · rw [upd_same, List.replicate_succ', List.map_append]
        rfl
    · rintro Hx ⟨q1, q2⟩
      refine ⟨D, List.replicate (ts.map V.ref).length true, rfl, SqL.of q1, ?_⟩
      rw [all_rep]
      exact k _ fun b o e => q2 _ _ (s1 _ _ e)
end
end Yt

set_option Elab.async false
set_option linter.all false
set_option maxRecDepth 100000
set_option maxHeartbeats 2000000
namespace Yt
open PySem PySem.Spec PyProof.Rows L2
abbrev sIsMajOver : Stmt := top 21
abbrev sIsWay : Stmt := top 22
abbrev sIsMaj : Stmt := top 24
/-- what two of a row of three have alike -/
def twK : List Key → V
  | [.inr x, .inr y, .inr z] => twiceV x y z
  | _ => .non
def majAt (m : List (List Key × V)) (k : List Key) : Bool := inV (twK k) [.non, (valV m k).getD .non]
def majB (ms : List Str) (m : List (List Key × V)) : Bool := (growN ms 3).all (majAt m)
theorem grow_mem {ms : List Str} {L : List (List Key)} {k : List Key} (h : k ∈ grow ms L) : ∃ s ∈ L, ∃ c ∈ ms, k = s ++ [Sum.inr c] := by
  obtain ⟨s, hs, h2⟩ := List.mem_flatMap.mp h
  obtain ⟨c, hc, rfl⟩ := List.mem_map.mp h2
  exact ⟨s, hs, c, hc, rfl⟩
theorem grow3_form {ms : List Str} {k : List Key} (h : k ∈ growN ms 3) : ∃ x y z, x ∈ ms ∧ y ∈ ms ∧ z ∈ ms ∧ k = [Sum.inr x, Sum.inr y, Sum.inr z] := by
  obtain ⟨s2, h2, z, hz, rfl⟩ := grow_mem h
  obtain ⟨s1, h1, y, hy, rfl⟩ := grow_mem h2
  obtain ⟨s0, h0, x, hx, rfl⟩ := grow_mem h1
  obtain rfl : s0 = [] := List.mem_singleton.mp h0
  exact ⟨x, y, z, hx, hy, hz, rfl⟩
theorem twice_flat (x y z : Str) : flatV (twiceV x y z) = true := by
  unfold twiceV
  split
  · rfl
  · split <;> rfl
def WayArg (H : Hp) (vs : List V) (ms : List Str) (m : List (List Key × V)) : Prop := ∃ a d, vs = [.ref a, .ref d] ∧ H a = some (.lst (ms.map V.str)) ∧ MarksOk ms ∧ WayIn H d ms m
def spMajB : Sp := fun vs H Q _ => ∃ ms m, WayArg H vs ms m ∧ ∀ H', Same H H' → Q (.bl (majB ms m)) H'
abbrev spWayB : Sp := spYes fun H vs => ∃ a d ms m, vs = [.ref a, .ref d] ∧ H a = some (.lst (ms.map V.str)) ∧ MarksOk ms ∧ WayIn H d ms m
section
variable {P : Program} {w : World} {K : PySem.W.Frag} {mg : Str → Option Value} {base : Heap} {f : Addr} {fd : FuncData}
theorem scIsMajOver : FnScope ["marks", "value", "three"] ["marks", "value"] (defScope sIsMajOver) := ⟨rfl, rfl, rfl, by decide +kernel, rfl, by decide +kernel, by decide +kernel⟩
theorem ok_ismajover {fT fW f2 : Addr} {dT dW d2 : FuncData} (F : FnP K "is_majority_over" sIsMajOver f fd) (T6 : Nm6 mg)
    (GT : FnOk P w K mg base CX0 1 fT dT ["marks"] (spThrees K)) (bT : Binds K dT ["marks"] []) (kT : PySem.W.keepIn K (.ref fT) = true) (gT : mg "threes_of" = some (.ref fT))
    (GW : FnOk P w K mg base CX0 2 fW dW ["marks", "value"] spWayB) (bW : Binds K dW ["marks", "value"] []) (kW : PySem.W.keepIn K (.ref fW) = true) (gW : mg "is_way_over" = some (.ref fW))
    (G2 : FnOk P w K mg base CX0 1 f2 d2 ["three"] spTwice) (b2 : Binds K d2 ["three"] []) (k2 : PySem.W.keepIn K (.ref f2) = true) (g2 : mg "mark_twice_in" = some (.ref f2)) :
    FnOk P w K mg base CX0 3 f fd ["marks", "value"] spMajB := by
  refine F.ok scIsMajOver (fun vs H Q E h => ?_) (fun cdv A outer s H vs Q E hr h => ?_)
  · obtain ⟨ms, m, ⟨a, d, rfl, _⟩, _⟩ := h
    rfl
  · obtain ⟨ms, m, ⟨a, d, rfl, ha, hm, hd⟩, k⟩ := h
    have hu := hu_of hr
    refine ⟨_, PSs.nox (pss_cons (ps_if (pt_not (pt_val (pe_call GW hr rfl gW kW bW .nil pass0 (pa_cons (pv 0) (pa_cons (pv 1) pa_nil))))) (pss_one (ps_ret pe_bl)) pss_nil)
      (pss_one (ps_ret (pe_callB (cr_all rfl) (by rfl) T6.all (by decide +kernel) (pa_cons (pe_lc (own := [("three", 2)]) (g := gName 2) (tt := tYes) (te := tOp (rIn K false) (tCall spTwice [] E0 (tCons (tVar 2) tNil)) (tTup (tCons (tC .non) (tCons (tDGet (tVar 1) (tVar 2)) tNil)))) rfl scIsMajOver.nd (pi_list (pe_call GT (hr.mono (by decide)) rfl gT kT bT .nil pass0 (pa_cons (pv 0) pa_nil))) (blkOk_by (own := [("three", 2)]) (N := ["marks", "value", "three"]) (sc := defScope sIsMajOver) (by decide +kernel))
        (fun _ _ _ _ _ => pg_name (i := 2) scIsMajOver.nd rfl (Or.inl rfl)) (fun _ _ _ _ _ => pts_nil) (fun _ _ _ _ _ => pe_cmpR op_in_seq (pe_call G2 (hr.mono (by decide)) rfl g2 k2 b2 .nil pass0 (pa_cons (pv 2) pa_nil)) (pe_tup (pa_cons pe_non (pa_cons (pe_dget hu (pv 1) (pv 2) (fun _ _ => rfl)) pa_nil))) (by rfl))) pa_nil))))), ?_⟩
    refine ⟨_, rfl, _, rfl, ⟨a, d, ms, m, rfl, ha, hm, hd⟩, fun H1 s1 => ⟨true, rfl, ?_⟩⟩
    refine iteF ?_
    refine ⟨_, rfl, a, ms, rfl, SqL.of (s1 _ _ ha), hm.2.1, fun L ts H2 nL hL hT s2 => ⟨L, rfl, ⟨_, SqL.of hL⟩, fun D hD => ?_⟩⟩
    have few : (growN ms 3).length ≤ 125 := by
      rw [growN_len]
      exact Nat.pow_le_pow_left hm.2.1 3
    refine lc_list (K := K) (a := L) (xs := ts.map V.ref) (fun i Hx => Hx D = some (.lst ((((growN ms 3).take i).map (majAt m)).map V.bl)) ∧ Same H2 Hx) ⟨upd_same, same_new hD⟩ (fun i Hx _ z => SqL.of (z.2 _ _ hL)) ?_ ?_
    · rintro i x Hx hx ⟨q1, q2⟩
      obtain ⟨t, et, rfl⟩ : ∃ t, ts[i]? = some t ∧ V.ref t = x := by
        rw [List.getElem?_map] at hx
        exact Option.map_eq_some_iff.mp hx
      obtain ⟨kk, ek, ht⟩ := paired_at' hT et
      have ht' : TupAt Hx t kk := q2 _ _ ht
      have hdx := q2 _ _ (s2 _ _ (s1 _ _ hd.1))
      have kmem := List.mem_of_getElem? ek
      obtain ⟨⟨k3, v⟩, hmem, e3⟩ := List.mem_map.mp (hd.2.1.mem_iff.mpr kmem)
      have e3 : k3 = kk := e3
      subst e3
      obtain ⟨zv, hz, ev⟩ := hd.2.2 _ hmem
      have ev : v = V.str zv := ev
      subst ev
      obtain ⟨j, ej⟩ := List.mem_iff_getElem?.mp hmem
      have gv : valV m k3 = some (V.str zv) := valV_at (hd.2.1.nodup_iff.mpr (growN_nodup hm.2.2.1.nodup 3)) ej
      obtain ⟨x, y, z, hx', hy', hz', rfl⟩ := grow3_form kmem
      refine ⟨rfl, ?_⟩
      refine ⟨_, rfl, t, x, y, z, rfl, ht', _, rfl, _, rfl, d, V.str zv, rfl, ?_, (by show 2 ≤ sizeLine; decide), fun tp ntp => ?_⟩
      · have := DGet.t hdx ht'
        rw [gv] at this
        exact this
      have st := same_new (o := .tup [V.non, V.str zv]) ntp
      refine ⟨tp, _, rfl, .inr (SqT.of upd_same), twice_flat x y z, rfl, ?_⟩
      have e1 : V.bl (if false = true then !inV (twiceV x y z) [V.non, V.str zv] else inV (twiceV x y z) [V.non, V.str zv]) = V.bl (majAt m [Sum.inr x, Sum.inr y, Sum.inr z]) := by
        unfold majAt
        rw [gv]
        rfl
      rw [e1]
      refine ⟨_, st _ _ q1, ?_, ?_, fun b o e => (upd_ne (ne_of_none e hD)).trans (st _ _ (q2 _ _ e))⟩
      · rw [List.length_map, List.length_map, List.length_take]
        exact len_ok (by omega)
      · rw [upd_same, List.take_add_one, ek, List.map_append, List.map_append]
        rfl
    · rintro Hx ⟨q1, q2⟩
      rw [List.length_map, Paired.length hT, List.take_length] at q1
      refine ⟨D, (growN ms 3).map (majAt m), rfl, SqL.of q1, ?_⟩
      rw [List.all_map]
      exact k Hx fun b o e => q2 _ _ (s2 _ _ (s1 _ _ e))
theorem scIsMaj : FnScope ["marks", "value"] ["marks", "value"] (defScope sIsMaj) := ⟨rfl, rfl, rfl, by decide +kernel, rfl, by decide +kernel, by decide +kernel⟩
theorem scIsWay : FnScope ["marks", "value"] ["marks", "value"] (defScope sIsWay) := ⟨rfl, rfl, rfl, by decide +kernel, rfl, by decide +kernel, by decide +kernel⟩
theorem ok_ismaj {fC fM : Addr} {dC dM : FuncData} (F : FnP K "is_majority" sIsMaj f fd)
    (GC : FnOk P w K mg base CX0 3 fC dC ["marks"] (spNon fun H vs => ∃ a ms, vs = [.ref a] ∧ H a = some (.lst (ms.map V.str)) ∧ MarksOk ms)) (bC : Binds K dC ["marks"] []) (kC : PySem.W.keepIn K (.ref fC) = true) (gC : mg "check_marks" = some (.ref fC))
    (GM : FnOk P w K mg base CX0 3 fM dM ["marks", "value"] spMajB) (bM : Binds K dM ["marks", "value"] []) (kM : PySem.W.keepIn K (.ref fM) = true) (gM : mg "is_majority_over" = some (.ref fM)) :
    FnOk P w K mg base CX0 4 f fd ["marks", "value"] spMajB := by
  refine F.ok scIsMaj (fun vs H Q E h => ?_) (fun cdv A outer s H vs Q E hr h => ?_)
  · obtain ⟨ms, m, ⟨a, d, rfl, _⟩, _⟩ := h
    rfl
  · obtain ⟨ms, m, ⟨a, d, rfl, ha, hm, hd⟩, k⟩ := h
    refine ⟨_, PSs.nox (pss_cons (ps_expr (pe_call GC hr rfl gC kC bC .nil pass0 (pa_cons (pv 0) pa_nil)))
      (pss_one (ps_ret (pe_call GM hr rfl gM kM bM .nil pass0 (pa_cons (pv 0) (pa_cons (pv 1) pa_nil)))))), ?_⟩
    refine ⟨_, rfl, ⟨a, ms, rfl, ha, hm⟩, fun H1 s1 => ?_⟩
    exact ⟨_, rfl, _, rfl, ms, m, ⟨a, d, rfl, s1 _ _ ha, hm, hd.to s1⟩, fun H2 s2 => k H2 fun b o e => s2 _ _ (s1 _ _ e)⟩
theorem ok_isway {fC fW : Addr} {dC dW : FuncData} (F : FnP K "is_way" sIsWay f fd)
    (GC : FnOk P w K mg base CX0 3 fC dC ["marks"] (spNon fun H vs => ∃ a ms, vs = [.ref a] ∧ H a = some (.lst (ms.map V.str)) ∧ MarksOk ms)) (bC : Binds K dC ["marks"] []) (kC : PySem.W.keepIn K (.ref fC) = true) (gC : mg "check_marks" = some (.ref fC))
    (GW : FnOk P w K mg base CX0 2 fW dW ["marks", "value"] spWayB) (bW : Binds K dW ["marks", "value"] []) (kW : PySem.W.keepIn K (.ref fW) = true) (gW : mg "is_way_over" = some (.ref fW)) :
    FnOk P w K mg base CX0 4 f fd ["marks", "value"] spWayB := by
  refine F.ok scIsWay (fun vs H Q E h => ?_) (fun cdv A outer s H vs Q E hr h => ?_)
  · obtain ⟨⟨a, d, ms, m, rfl, _⟩, _⟩ := h
    rfl
  · obtain ⟨⟨a, d, ms, m, rfl, ha, hm, hd⟩, k⟩ := h
    refine ⟨_, PSs.nox (pss_cons (ps_expr (pe_call GC hr rfl gC kC bC .nil pass0 (pa_cons (pv 0) pa_nil)))
      (pss_one (ps_ret (pe_call GW (hr.mono (by decide)) rfl gW kW bW .nil pass0 (pa_cons (pv 0) (pa_cons (pv 1) pa_nil)))))), ?_⟩
    refine ⟨_, rfl, ⟨a, ms, rfl, ha, hm⟩, fun H1 s1 => ?_⟩
    exact ⟨_, rfl, _, rfl, ⟨a, d, ms, m, rfl, s1 _ _ ha, hm, hd.to s1⟩, fun H2 s2 => k H2 fun b o e => s2 _ _ (s1 _ _ e)⟩
end
end Yt

set_option Elab.async false
set_option linter.all false
set_option maxRecDepth 100000
set_option maxHeartbeats 2000000
namespace Yt
open PySem PySem.Spec PyProof.Rows L2
abbrev sIsOrder : Stmt := top 12
abbrev sMiddleOf : Stmt := top 26
/-- the one in the middle of three numbers -/
def med (i j l : Int) : Int := max (min i j) (min (max i j) l)
theorem perm_sum {xs ys : List Int} (p : xs.Perm ys) : xs.sum = ys.sum := by
  induction p with
  | nil => rfl
  | cons x _ ih => rw [List.sum_cons, List.sum_cons, ih]
  | swap x y l =>
    simp only [List.sum_cons]
    omega
  | trans _ _ h1 h2 => exact h1.trans h2
theorem med_of {ns : List Int} {i j l : Int} (p : ns.Perm [i, j, l]) (s : ns.Pairwise (· ≤ ·)) : ns[1]? = some (med i j l) := by
  have hl := p.length_eq
  match ns, hl with
  | [a, b, c], _ =>
    have h1 := List.pairwise_cons.mp s
    have h2 := List.pairwise_cons.mp h1.2
    have ab := h1.1 b (by simp)
    have bc := h2.1 c (by simp)
    have sm := perm_sum p
    simp only [List.sum_cons, List.sum_nil] at sm
    have ia : i ∈ [a, b, c] := p.mem_iff.mpr (by simp)
    have ja : j ∈ [a, b, c] := p.mem_iff.mpr (by simp)
    have la : l ∈ [a, b, c] := p.mem_iff.mpr (by simp)
    have ai : a ∈ [i, j, l] := p.mem_iff.mp (by simp)
    have ci : c ∈ [i, j, l] := p.mem_iff.mp (by simp)
    simp only [List.mem_cons, List.not_mem_nil, or_false] at ia ja la ai ci
    show some b = some (med i j l)
    unfold med
    congr 1
    omega
/-- the one in the middle of a row of three, as they stand in an order -/
def idx (os : List Str) (z : Str) : Int := ((os.findIdx fun y => decide (y = z) : Nat) : Int)
def midOf (os : List Str) : List Key → V
  | [.inr x, .inr y, .inr z] => (os.map V.str).getD (med (idx os x) (idx os y) (idx os z)).toNat .non
  | _ => .non
theorem idx_at {os : List Str} {z : Str} (h : z ∈ os) : ∃ j : Nat, idx os z = j ∧ os[j]? = some z ∧ ∀ (m : Nat) (y : Str), m < j → os[m]? = some y → y ≠ z := by
  have lt : (os.findIdx fun y => decide (y = z)) < os.length := List.findIdx_lt_length_of_exists ⟨z, h, by simp⟩
  refine ⟨_, rfl, ?_, fun m y hm hy e => ?_⟩
  · have := List.findIdx_getElem (w := lt)
    have e := of_decide_eq_true this
    rw [List.getElem?_eq_getElem lt, e]
  · have := List.not_of_lt_findIdx hm
    obtain ⟨h1, h2⟩ := List.getElem?_eq_some_iff.mp hy
    rw [h2, e] at this
    simp at this
def spMid (K : PySem.W.Frag) : Sp := fun vs H Q _ => ∃ (t o : Addr) (os : List Str) (x y z : Str), vs = [.ref t, .ref o] ∧ H t = some (.tup [.str x, .str y, .str z]) ∧ H o = some (.lst (os.map V.str)) ∧ x ∈ os ∧ y ∈ os ∧ z ∈ os ∧ os.length ≤ 1000 ∧ ∀ H', Same H H' → Q (midOf os [.inr x, .inr y, .inr z]) H'
section
variable {P : Program} {w : World} {K : PySem.W.Frag} {mg : Str → Option Value} {base : Heap} {f : Addr} {fd : FuncData}
theorem scMiddleOf : FnScope ["three", "order", "places", "mark"] ["three", "order"] (defScope sMiddleOf) := ⟨rfl, rfl, rfl, by decide +kernel, rfl, by decide +kernel, by decide +kernel⟩
theorem med_in (i j l : Int) : med i j l = i ∨ med i j l = j ∨ med i j l = l := by
  unfold med
  omega
theorem ok_middleof (F : FnP K "_middle_of" sMiddleOf f fd) (hso : mg "sorted" = none) : FnOk P w K mg base CX0 1 f fd ["three", "order"] (spMid K) := by
  refine F.ok scMiddleOf (fun vs H Q E h => ?_) (fun cdv A outer s H vs Q E hr h => ?_)
  · obtain ⟨t, o, os, x, y, z, rfl, _⟩ := h
    rfl
  · obtain ⟨t, o, os, x, y, z, rfl, ht, ho, hx, hy, hz, few, k⟩ := h
    refine ⟨_, PSs.nox (pss_cons (ps_set (i := 2) scMiddleOf.nd rfl (Or.inl rfl) (pe_callB cr_sorted (by rfl) hso (by decide +kernel) (pa_cons (pe_lc (own := [("mark", 3)]) (g := gName 3) (tt := tYes) (te := tBM K "list" (rIndex K) (tVar 1) (tCons (tVar 3) tNil)) rfl scMiddleOf.nd (pi_tup (pv 0)) (blkOk_by (own := [("mark", 3)]) (N := ["three", "order", "places", "mark"]) (sc := defScope sMiddleOf) (by decide +kernel))
        (fun _ _ _ _ _ => pg_name (i := 3) scMiddleOf.nd rfl (Or.inl rfl)) (fun _ _ _ _ _ => pts_nil) (fun _ _ _ _ _ => pe_bm PySem.F.plainAttrs_list PySem.F.slot_list_index PySem.F.type_list_index mt_index (pv 1) (pa_cons (pv 3) pa_nil))) pa_nil)))
      (pss_one (ps_ret (pe_ix ix_list (pv 1) (pe_ix ix_list (pv 2) pe_int (fun _ _ => rfl)) (fun _ _ => rfl))))), ?_⟩
    refine ⟨_, rfl, t, rfl, ⟨_, SqT.of ht⟩, fun D hD => ?_⟩
    have xyz : [V.str x, V.str y, V.str z] = [x, y, z].map V.str := rfl
    refine lc_tup (K := K) (a := t) (xs := [V.str x, V.str y, V.str z]) (fun i Hx => Hx D = some (.lst ((([x, y, z].take i).map (idx os)).map V.int)) ∧ Same H Hx) ⟨upd_same, same_new hD⟩ (fun i Hx _ q => SqT.of (q.2 _ _ ht)) ?_ ?_
    · rintro i v Hx hv ⟨q1, q2⟩
      rw [xyz, List.getElem?_map] at hv
      obtain ⟨c, ec, rfl⟩ := Option.map_eq_some_iff.mp hv
      have hi : i < 3 := (List.getElem?_eq_some_iff.mp ec).1
      have hc : c ∈ os := by
        have := List.mem_of_getElem? ec
        simp only [List.mem_cons, List.not_mem_nil, or_false] at this
        rcases this with rfl | rfl | rfl
        · exact hx
        · exact hy
        · exact hz
      obtain ⟨j, ej, hj, before⟩ := idx_at hc
      have hox := q2 _ _ ho
      refine ⟨rfl, ?_⟩
      refine ⟨_, rfl, .inl ⟨rfl, _, SqL.of hox⟩, _, rfl, o, os.map V.str, .str c, j, .str c, rfl, rfl, SqL.of hox, rfl, flat_strs' os, by rw [List.getElem?_map, hj] <;> rfl, beq_self_eq_true c, fun m z' hm hz' => ?_, ?_⟩
      · rw [List.getElem?_map] at hz'
        obtain ⟨y', ey, rfl⟩ := Option.map_eq_some_iff.mp hz'
        show (y' == c) = false
        exact beq_eq_false_iff_ne.mpr (before m y' hm ey)
      · refine ⟨_, q1, ?_, ?_, fun b o e => (upd_ne (ne_of_none e hD)).trans (q2 _ _ e)⟩
        · rw [List.length_map, List.length_map, List.length_take]
          exact len_ok (by simp only [List.length_cons, List.length_nil]; omega)
        · rw [upd_same, List.take_add_one, ec, List.map_append, List.map_append, ← ej]
          rfl
    · rintro Hx ⟨q1, q2⟩
      have q1 : Hx D = some (.lst ([idx os x, idx os y, idx os z].map V.int)) := q1
      refine ⟨D, _, rfl, SqL.of q1, (by show 3 < 64; decide), fun ns p perm sorted np => ?_⟩
      have hmed := med_of perm sorted
      obtain ⟨c, hc, em⟩ : ∃ c ∈ os, med (idx os x) (idx os y) (idx os z) = idx os c := by
        rcases med_in (idx os x) (idx os y) (idx os z) with h | h | h
        · exact ⟨x, hx, h⟩
        · exact ⟨y, hy, h⟩
        · exact ⟨z, hz, h⟩
      obtain ⟨j, ej, hj, _⟩ := idx_at hc
      have sp := same_new (o := .lst (ns.map V.int)) np
      have hv : (os.map V.str)[j]? = some (V.str c) := by rw [List.getElem?_map, hj] <;> rfl
      refine ⟨_, rfl, _, rfl, p, ns.map V.int, 1, .int (med (idx os x) (idx os y) (idx os z)), rfl, rfl, SqL.of upd_same, atI_nat (j := 1) (by rw [List.getElem?_map, hmed] <;> rfl), o, os.map V.str, _, V.str c, rfl, rfl, SqL.of (sp _ _ (q2 _ _ ho)), ?_, ?_⟩
      · rw [em, ej]
        exact atI_nat hv
      · have e1 : midOf os [.inr x, .inr y, .inr z] = V.str c := by
          show (os.map V.str).getD (med (idx os x) (idx os y) (idx os z)).toNat .non = _
          rw [em, ej, Int.toNat_natCast, List.getD_eq_getElem?_getD, hv] <;> rfl
        rw [← e1]
        exact k _ fun b o e => sp _ _ (q2 _ _ e)
end
end Yt

set_option Elab.async false
set_option linter.all false
set_option maxRecDepth 100000
set_option maxHeartbeats 2000000
namespace Yt
open PySem PySem.Spec PyProof.Rows L2
abbrev sMiddleWay : Stmt := top 25
/-- a way's items, put in one behind the other -/
theorem way_more {ms : List Str} (nd : (growN ms 3).Nodup) {g : List Key → V} {i : Nat} {k : List Key} (e : (growN ms 3)[i]? = some k) : putK (((growN ms 3).take i).map fun k => (k, g k)) k (g k) = ((growN ms 3).take (i + 1)).map fun k => (k, g k) := by
  have et : (growN ms 3).take (i + 1) = (growN ms 3).take i ++ [k] := by rw [List.take_add_one, e] <;> rfl
  have fresh : k ∉ (((growN ms 3).take i).map fun k => (k, g k)).map (·.1) := by
    rw [List.map_map]
    intro z
    obtain ⟨k', hk', e'⟩ := List.mem_map.mp z
    have e2 : k' = k := e'
    rw [e2] at hk'
    rw [← List.take_append_drop (i + 1) (growN ms 3), et] at nd
    exact (List.nodup_append.mp (List.nodup_append.mp nd).1).2.2 k hk' k (List.mem_singleton.mpr rfl) rfl
  rw [putK_new fresh, et, List.map_append]
  rfl
section
variable {P : Program} {w : World} {K : PySem.W.Frag} {mg : Str → Option Value} {base : Heap} {f : Addr} {fd : FuncData}
def OrderArg (H : Hp) (vs : List V) (ms os : List Str) : Prop := ∃ a o, vs = [.ref a, .ref o] ∧ H a = some (.lst (ms.map V.str)) ∧ MarksOk ms ∧ H o = some (.lst (os.map V.str)) ∧ os.Perm ms
theorem scIsOrder : FnScope ["words", "value", "word"] ["words", "value"] (defScope sIsOrder) := ⟨rfl, rfl, rfl, by decide +kernel, rfl, by decide +kernel, by decide +kernel⟩
theorem ok_isorder (F : FnP K "is_order_of" sIsOrder f fd) (T : Nm mg) (T6 : Nm6 mg) : FnOk P w K mg base CX0 1 f fd ["words", "value"] (spYes fun H vs => ∃ ms os, OrderArg H vs ms os) := by
  refine F.ok scIsOrder (fun vs H Q E h => ?_) (fun cdv A outer s H vs Q E hr h => ?_)
  · obtain ⟨⟨ms, os, a, o, rfl, _⟩, _⟩ := h
    rfl
  · obtain ⟨⟨ms, os, a, o, rfl, ha, hm, ho, hp⟩, k⟩ := h
    refine ⟨_, PSs.nox (pss_one (ps_ret (pe_and (pe_callB call_isi (by rfl) T6.isi (by decide +kernel) (pa_cons (pv 1) (pa_cons (pe_bltn (v := .ty "list") (u := .type "list") (by rfl) T6.list (by decide +kernel) rfl) pa_nil)))
      (pe_and (pe_cmpR op_eq (pe_callB call_len (by rfl) T.len PySem.boot_len (pa_cons (pv 1) pa_nil)) (pe_callB call_len (by rfl) T.len PySem.boot_len (pa_cons (pv 0) pa_nil)) (nomark _))
      (pe_one (pe_callB (cr_all rfl) (by rfl) T6.all (by decide +kernel) (pa_cons (pe_lc (own := [("word", 2)]) (g := gName 2) (tt := tYes) (te := tOp (rIn K false) (tVar 2) (tVar 1)) rfl scIsOrder.nd (pi_list (pv 0)) (blkOk_by (own := [("word", 2)]) (N := ["words", "value", "word"]) (sc := defScope sIsOrder) (by decide +kernel))
        (fun _ _ _ _ _ => pg_name (i := 2) scIsOrder.nd rfl (Or.inl rfl)) (fun _ _ _ _ _ => pts_nil) (fun _ _ _ _ _ => pe_cmpR op_in_seq (pv 2) (pv 1) (by rfl))) pa_nil))))))), ?_⟩
    refine ⟨_, rfl, _, _, .type "list", _, true, rfl, .ty _, .base (.lst ho), kit_ty (by decide +kernel), true, rfl, ?_⟩
    refine iteT ?_
    refine ⟨_, rfl, _, (os.map V.str).length, rfl, Or.inl ⟨_, SqL.of ho, rfl⟩, _, rfl, _, (ms.map V.str).length, rfl, Or.inl ⟨_, SqL.of ha, rfl⟩, rfl, true, ?_, ?_⟩
    · have : (((os.map V.str).length : Nat) : Int) = (((ms.map V.str).length : Nat) : Int) := by rw [List.length_map, List.length_map, hp.length_eq]
      rw [this]
      simp
    refine iteT ?_
    refine ⟨_, rfl, a, rfl, ⟨_, SqL.of ha⟩, fun D hD => ?_⟩
    refine lc_list (K := K) (a := a) (xs := ms.map V.str) (fun i Hx => Hx D = some (.lst ((List.replicate i true).map V.bl)) ∧ Same H Hx) ⟨upd_same, same_new hD⟩ (fun i Hx _ z => SqL.of (z.2 _ _ ha)) ?_ ?_
    · rintro i x Hx hx ⟨q1, q2⟩
      rw [List.getElem?_map] at hx
      obtain ⟨z, ez, rfl⟩ := Option.map_eq_some_iff.mp hx
      have hi : i < ms.length := (List.getElem?_eq_some_iff.mp ez).1
      have hz : z ∈ os := hp.mem_iff.mpr (List.mem_of_getElem? ez)
      have m5 := hm.2.1
      refine ⟨rfl, ?_⟩
      refine ⟨_, rfl, _, rfl, o, os.map V.str, rfl, .inl (SqL.of (q2 _ _ ho)), rfl, flat_strs' os, ?_⟩
      have e1 : (V.bl (if false = true then !inV (V.str z) (os.map V.str) else inV (V.str z) (os.map V.str))) = V.bl true := by
        show V.bl (inV (V.str z) (os.map V.str)) = _
        rw [inV_str, decide_eq_true hz]
      rw [e1]
      refine ⟨_, q1, ?_, ?_, fun b o e => (upd_ne (ne_of_none e hD)).trans (q2 _ _ e)⟩
      · rw [List.length_map, List.length_replicate]
        exact len_ok (by omega)
      · rw [upd_same, List.replicate_succ', List.map_append]
        rfl
    · rintro Hx ⟨q1, q2⟩
      refine ⟨D, List.replicate (ms.map V.str).length true, rfl, SqL.of q1, ?_⟩
      rw [all_rep]
      exact k _ q2
def spMiddleWay : Sp := fun vs H Q _ => ∃ ms os, OrderArg H vs ms os ∧ ∀ (L : Addr) (H' : Hp), H L = none → H' L = some (.dT (wayOf ms (midOf os))) → Same H H' → Q (.ref L) H'
theorem scMiddleWay : FnScope ["marks", "order", "three"] ["marks", "order"] (defScope sMiddleWay) := ⟨rfl, rfl, rfl, by decide +kernel, rfl, by decide +kernel, by decide +kernel⟩
theorem ok_middleway {fC fO fM fT : Addr} {dC dO dM dT : FuncData} (F : FnP K "middle_way" sMiddleWay f fd)
    (GC : FnOk P w K mg base CX0 3 fC dC ["marks"] (spNon fun H vs => ∃ a ms, vs = [.ref a] ∧ H a = some (.lst (ms.map V.str)) ∧ MarksOk ms)) (bC : Binds K dC ["marks"] []) (kC : PySem.W.keepIn K (.ref fC) = true) (gC : mg "check_marks" = some (.ref fC))
    (GO : FnOk P w K mg base CX0 1 fO dO ["words", "value"] (spYes fun H vs => ∃ ms os, OrderArg H vs ms os)) (bO : Binds K dO ["words", "value"] []) (kO : PySem.W.keepIn K (.ref fO) = true) (gO : mg "is_order_of" = some (.ref fO))
    (GM : FnOk P w K mg base CX0 1 fM dM ["three", "order"] (spMid K)) (bM : Binds K dM ["three", "order"] []) (kM : PySem.W.keepIn K (.ref fM) = true) (gM : mg "_middle_of" = some (.ref fM))
    (GT : FnOk P w K mg base CX0 1 fT dT ["marks"] (spThrees K)) (bT : Binds K dT ["marks"] []) (kT : PySem.W.keepIn K (.ref fT) = true) (gT : mg "threes_of" = some (.ref fT)) :
    FnOk P w K mg base CX0 4 f fd ["marks", "order"] spMiddleWay := by
  refine F.ok scMiddleWay (fun vs H Q E h => ?_) (fun cdv A outer s H vs Q E hr h => ?_)
  · obtain ⟨ms, os, ⟨a, o, rfl, _⟩, _⟩ := h
    rfl
  · obtain ⟨ms, os, ⟨a, o, rfl, ha, hm, ho, hp⟩, k⟩ := h
    have hu := hu_of hr
    refine ⟨_, PSs.nox (pss_cons (ps_expr (pe_call GC hr rfl gC kC bC .nil pass0 (pa_cons (pv 0) pa_nil)))
      (pss_cons (ps_if (pt_not (pt_val (pe_call GO (hr.mono (by decide)) rfl gO kO bO .nil pass0 (pa_cons (pv 0) (pa_cons (pv 1) pa_nil))))) (pss_one ps_never) pss_nil)
      (pss_one (ps_ret (pe_dcT (own := [("three", 2)]) (g := gName 2) (tt := tYes) (tk := tVar 2) (tv := tCall (spMid K) [] E0 (tCons (tVar 2) (tCons (tVar 1) tNil))) rfl scMiddleWay.nd (Nat.lt_of_succ_lt hu) (pi_list (pe_call GT (hr.mono (by decide)) rfl gT kT bT .nil pass0 (pa_cons (pv 0) pa_nil))) (blkOk_by (own := [("three", 2)]) (N := ["marks", "order", "three"]) (sc := defScope sMiddleWay) (by decide +kernel))
        (fun _ _ _ _ _ => pg_name (i := 2) scMiddleWay.nd rfl (Or.inl rfl)) (fun _ _ _ _ _ => pts_nil) (fun _ _ _ _ _ => pv 2) (fun _ _ _ _ _ => pe_call GM (hr.mono (by decide)) rfl gM kM bM .nil pass0 (pa_cons (pv 2) (pa_cons (pv 1) pa_nil)))))))), ?_⟩
    refine ⟨_, rfl, ⟨a, ms, rfl, ha, hm⟩, fun H1 s1 => ?_⟩
    refine ⟨_, rfl, _, rfl, ⟨ms, os, a, o, rfl, s1 _ _ ha, hm, s1 _ _ ho, hp⟩, fun H2 s2 => ⟨true, rfl, ?_⟩⟩
    refine iteF ?_
    have s12 : Same H H2 := fun b o e => s2 _ _ (s1 _ _ e)
    refine ⟨_, rfl, a, ms, rfl, SqL.of (s12 _ _ ha), hm.2.1, fun L ts H3 nL hL hT s3 => ⟨L, rfl, ⟨_, SqL.of hL⟩, fun D hD => ?_⟩⟩
    have nd := growN_nodup hm.2.2.1.nodup 3
    have few : (growN ms 3).length ≤ 125 := by
      rw [growN_len]
      exact Nat.pow_le_pow_left hm.2.1 3
    have m5 := hm.2.1
    refine dcT_list (K := K) (a := L) (xs := ts.map V.ref) (fun i Hx => Hx D = some (.dT (((growN ms 3).take i).map fun k => (k, midOf os k))) ∧ Same H3 Hx) ⟨upd_same, same_new hD⟩ (fun i Hx _ z => SqL.of (z.2 _ _ hL)) ?_ ?_
    · rintro i x Hx hx ⟨q1, q2⟩
      rw [List.getElem?_map] at hx
      obtain ⟨t, et, rfl⟩ := Option.map_eq_some_iff.mp hx
      obtain ⟨kk, ek, ht⟩ := paired_at' hT et
      have ht' := q2 _ _ ht
      obtain ⟨x, y, z, hx', hy', hz', rfl⟩ := grow3_form (List.mem_of_getElem? ek)
      refine ⟨rfl, ?_⟩
      refine ⟨_, rfl, _, rfl, _, rfl, t, o, os, x, y, z, rfl, ht', q2 _ _ (s3 _ _ (s12 _ _ ho)), hp.mem_iff.mpr hx', hp.mem_iff.mpr hy', hp.mem_iff.mpr hz', by rw [hp.length_eq]; omega, fun H5 s5 => ?_⟩
      refine ⟨_, [Sum.inr x, Sum.inr y, Sum.inr z], t, rfl, s5 _ _ ht', s5 _ _ q1, ?_, ?_, fun b o e => (upd_ne (ne_of_none e hD)).trans (s5 _ _ (q2 _ _ e))⟩
      · rw [List.length_map, List.length_take]
        exact len_ok (by omega)
      · rw [upd_same, way_more nd ek]
    · rintro Hx ⟨q1, q2⟩
      rw [List.length_map, Paired.length hT, List.take_length] at q1
      have nD : H D = none := by
        cases e : H D with
        | none => rfl
        | some o =>
          rw [s3 _ _ (s12 _ _ e)] at hD
          cases hD
      exact k D Hx nD q1 fun b o e => q2 _ _ (s3 _ _ (s12 _ _ e))
end
end Yt

set_option Elab.async false
set_option linter.all false
set_option maxRecDepth 100000
set_option maxHeartbeats 2000000
namespace Yt
open PySem PySem.Spec PyProof.Rows L2
abbrev sWayRight : Stmt := top 51
/-! ### rows of keys, compared -/
def keyD : Key → PyData
  | .inl i => .int i
  | .inr x => .str x
def rowsD (L : List (List Key)) : PyData := .list (L.map fun k => .tuple (k.map keyD))
theorem dp_keys {K : PySem.W.Frag} {H : Hp} : ∀ ks : List Key, DpAll K H (ks.map kV) (ks.map keyD)
  | [] => .nil
  | .inl i :: r => .cons (.int i) (dp_keys r)
  | .inr x :: r => .cons (.str x) (dp_keys r)
theorem dp_rows {K : PySem.W.Frag} {H : Hp} : ∀ {ts : List Addr} {L : List (List Key)}, Paired (TupAt H) ts L → DpAll K H (ts.map V.ref) (L.map fun k => .tuple (k.map keyD))
  | _, _, .nil => .nil
  | _, _, .cons h t => .cons (.tup (SqT.of h) (dp_keys _)) (dp_rows t)
def KeysOk (L : List (List Key)) : Prop := ∀ k ∈ L, ∀ x, (Sum.inr x : Key) ∈ k → WordOk x
theorem word_str {x : Str} (h : WordOk x) : PyData.strOk x = true := by
  unfold PyData.strOk
  rw [← Array.all_toList, List.all_eq_true]
  intro c hc
  have := h.2 c hc
  exact decide_eq_true (by omega)
theorem lay_keys : ∀ ks : List Key, (∀ x, (Sum.inr x : Key) ∈ ks → WordOk x) → PyData.canLayAll0 (ks.map keyD) = true
  | [], _ => rfl
  | .inl i :: r, h => by
    have := lay_keys r fun x hx => h x (List.mem_cons_of_mem _ hx)
    show (_ && PyData.canLayAll0 (r.map keyD)) = true
    rw [this]
    rfl
  | .inr x :: r, h => by
    have := lay_keys r fun x hx => h x (List.mem_cons_of_mem _ hx)
    show (PyData.strOk x && PyData.canLayAll0 (r.map keyD)) = true
    rw [this, word_str (h x List.mem_cons_self)]
    rfl
theorem lay_rows : ∀ L : List (List Key), KeysOk L → PyData.canLayAll0 (L.map fun k => .tuple (k.map keyD)) = true
  | [], _ => rfl
  | k :: r, h => by
    show (PyData.canLayAll0 (k.map keyD) && PyData.canLayAll0 (r.map fun k => .tuple (k.map keyD))) = true
    rw [lay_keys k (h k List.mem_cons_self), lay_rows r fun k' hk' => h k' (List.mem_cons_of_mem _ hk')]
    rfl
theorem dep_keys : ∀ ks : List Key, PyData.depthAll (ks.map keyD) = 0
  | [] => by simp only [List.map_nil, PyData.depthAll]
  | k :: r => by
    have h := dep_keys r
    cases k <;> simp only [List.map_cons, keyD, PyData.depthAll, PyData.depth, h] <;> rfl
theorem dep_rows : ∀ L : List (List Key), PyData.depthAll (L.map fun k => .tuple (k.map keyD)) ≤ 1
  | [] => by simp only [List.map_nil, PyData.depthAll]; omega
  | k :: r => by
    have h := dep_rows r
    simp only [List.map_cons, PyData.depthAll, PyData.depth, dep_keys]
    omega
theorem rows_shaped {L : List (List Key)} (hk : KeysOk L) : SeqAt.shaped (rowsD L) = true := by
  unfold SeqAt.shaped
  rw [show (rowsD L).canLay0 = true from lay_rows L hk]
  have h := dep_rows L
  have e : (rowsD L).depth ≤ 64 := by
    unfold rowsD
    simp only [PyData.depth]
    omega
  rw [decide_eq_true e]
  rfl
theorem rows_eqv {L : List (List Key)} (hk : KeysOk L) : PyData.eqv (rowsD L) (rowsD L) = true := SeqAt.eqv_refl _ (lay_rows L hk)
theorem keys_ok {ms : List Str} (h : ∀ z ∈ ms, WordOk z) : KeysOk (growN ms 3) := fun k hk x hx => by
  obtain ⟨a, b, c, ha, hb, hc, rfl⟩ := grow3_form hk
  simp only [List.mem_cons, List.not_mem_nil, or_false, Sum.inr.injEq] at hx
  rcases hx with rfl | rfl | rfl
  · exact h _ ha
  · exact h _ hb
  · exact h _ hc
theorem way_keys (ms : List Str) (g : List Key → V) : (wayOf ms g).map (·.1) = growN ms 3 := by
  unfold wayOf
  rw [List.map_map]
  exact List.map_id _
/-- the items of a way beside themselves -/
theorem way_ex {H : Hp} {A : List Addr} {n : Nat} {ms : List Str} {g : List Key → V} (hg : ∀ k ∈ growN ms 3, leafV (g k) = true) : Paired (fun p q => p.1 = q.1 ∧ p.1.length ≤ 1000 ∧ Ex H n A p.2 q.2) (wayOf ms g) (wayOf ms g) := by
  unfold wayOf
  have go : ∀ L : List (List Key), (∀ k ∈ L, k ∈ growN ms 3) → Paired (fun p q => p.1 = q.1 ∧ p.1.length ≤ 1000 ∧ Ex H n A p.2 q.2) (L.map fun k => (k, g k)) (L.map fun k => (k, g k)) := by
    intro L
    induction L with
    | nil => intro _; exact .nil
    | cons k r ih =>
      intro h
      have hk := h k List.mem_cons_self
      exact .cons ⟨rfl, by rw [growN_each ms 3 k hk]; decide, Ex.leaf (hg k hk)⟩ (ih fun k' h' => h k' (List.mem_cons_of_mem _ h'))
  exact go _ fun k h => h
def spWayRight : Sp := fun vs H Q _ => ∃ (a d e : Addr) (ms : List Str) (g : List Key → V), vs = [.ref a, .ref d, .ref e] ∧ H a = some (.lst (ms.map V.str)) ∧ MarksOk ms ∧ d ≠ e ∧ H d = some (.dT (wayOf ms g)) ∧ H e = some (.dT (wayOf ms g)) ∧ (∀ k ∈ growN ms 3, leafV (g k) = true) ∧ ∀ H', But d H H' → Q (.bl true) H'
section
variable {P : Program} {w : World} {K : PySem.W.Frag} {mg : Str → Option Value} {base : Heap} {f : Addr} {fd : FuncData}
theorem scWayRight : FnScope ["_law_marks_here", "_law_told", "_law_due"] ["_law_marks_here", "_law_told", "_law_due"] (defScope sWayRight) := ⟨rfl, rfl, rfl, by decide +kernel, rfl, by decide +kernel, by decide +kernel⟩
theorem ok_wayright {fE fT : Addr} {dE dT : FuncData} (F : FnP K "_law_way_right" sWayRight f fd) (T6 : Nm6 mg)
    (GE : FnOk P w K mg base CX0 4 fE dE ["_law_mine", "_law_theirs"] (spExact K 4)) (bE : Binds K dE ["_law_mine", "_law_theirs"] []) (kE : PySem.W.keepIn K (.ref fE) = true) (gE : mg "_law_exact" = some (.ref fE))
    (GT : FnOk P w K mg base CX0 1 fT dT ["_law_marks_here"] (spThrees K)) (bT : Binds K dT ["_law_marks_here"] []) (kT : PySem.W.keepIn K (.ref fT) = true) (gT : mg "_law_threes" = some (.ref fT)) :
    FnOk P w K mg base CX0 5 f fd ["_law_marks_here", "_law_told", "_law_due"] spWayRight := by
  refine F.ok scWayRight (fun vs H Q E h => ?_) (fun cdv A outer s H vs Q E hr h => ?_)
  · obtain ⟨a, d, e, ms, g, rfl, _⟩ := h
    rfl
  · obtain ⟨a, d, e, ms, g, rfl, ha, hm, ne, hd, he, hg, k⟩ := h
    have hu := hu_of hr
    refine ⟨_, PSs.nox (pss_cons (ps_if (PW.pt (pw_or (pt_not (pt_val (pe_call GE hr rfl gE kE bE .nil pass0 (pa_cons (pv 1) (pa_cons (pv 2) pa_nil)))))
          (pw_or1 (pt_cmpR (op_neD hr.units) (pe_callTy (call_list_dT rfl) (by rfl) T6.list (by decide +kernel) (pa_cons (pv 1) pa_nil)) (pe_call GT (hr.mono (by decide)) rfl gT kT bT .nil pass0 (pa_cons (pv 0) pa_nil)) (nomark _))))) (pss_one (ps_ret pe_bl)) pss_nil)
      (pss_cons (ps_dput hu (pv 1) (pe_tup (pa_cons pe_str (pa_cons pe_str (pa_cons pe_str pa_nil)))) pe_str rfl)
      (pss_one (ps_ret pe_bl)))), ?_⟩
    have few : (growN ms 3).length ≤ 125 := by
      rw [growN_len]
      exact Nat.pow_le_pow_left hm.2.1 3
    have wl : (wayOf ms g).length ≤ 125 := by
      unfold wayOf
      rw [List.length_map]
      exact few
    refine ⟨_, rfl, _, rfl, [], _, _, rfl, .inr (.inr (.inr ⟨d, e, _, _, rfl, rfl, ne, by simp, by simp, hd, he, way_ex hg, by omega, Nat.le_refl _, by rw [way_keys]; exact growN_nodup hm.2.2.1.nodup 3⟩)), fun H1 s1 => ⟨true, rfl, ?_⟩⟩
    refine iteF ?_
    refine ⟨_, rfl, d, _, rfl, .inl (s1 _ _ hd), fun p bs np kb => ?_⟩
    have sp := same_new (o := .lst (bs.map V.ref)) np
    refine ⟨_, rfl, a, ms, rfl, SqL.of (sp _ _ (s1 _ _ ha)), hm.2.1, fun L ts H2 nL hL hT s2 => ?_⟩
    have hb : Paired (TupAt H2) bs (growN ms 3) := by
      have go : ∀ {m : List (List Key × V)} {bs : List Addr}, IsKeys H1 m bs → Paired (TupAt H2) bs (m.map (·.1)) := by
        intro m bs h
        induction h with
        | nil => exact .nil
        | cons h _ ih => exact .cons (s2 _ _ (sp _ _ h)) ih
      have := go kb
      rwa [way_keys] at this
    refine ⟨rowsD (growN ms 3), rowsD (growN ms 3), .lst (SqL.of (s2 _ _ upd_same)) (dp_rows hb), .lst (SqL.of hL) (dp_rows hT), rows_shaped (keys_ok hm.2.2.2), rows_shaped (keys_ok hm.2.2.2), _, rfl, ?_⟩
    rw [rows_eqv (keys_ok hm.2.2.2)]
    refine iteF ?_
    have hd2 := s2 _ _ (sp _ _ (s1 _ _ hd))
    refine ⟨_, rfl, (by show 3 ≤ sizeLine; decide), fun t nt => ?_⟩
    have st := same_new (o := .tup [V.str "z", V.str "z", V.str "z"]) nt
    refine ⟨d, _, rfl, DPut.t (k := [Sum.inr "z", Sum.inr "z", Sum.inr "z"]) (st _ _ hd2) upd_same (len_ok (by omega)), ?_⟩
    exact k _ fun b o n h => (upd_ne n).trans (st _ _ (s2 _ _ (sp _ _ (s1 _ _ h))))
end
end Yt

set_option Elab.async false
set_option linter.all false
set_option maxRecDepth 100000
set_option maxHeartbeats 2000000
namespace Yt
open PySem PySem.Spec PyProof.Rows L2
abbrev sLawMid : Stmt := top 48
def spLawMid : Sp := fun vs H Q _ => ∃ (o : Addr) (ms os : List Str), vs = [.ref o] ∧ H o = some (.lst (os.map V.str)) ∧ MarksOk ms ∧ os.Perm ms ∧ ∀ (L : Addr) (H' : Hp), H L = none → H' L = some (.dT (wayOf ms (midOf os))) → Same H H' → Q (.ref L) H'
theorem lt_asym {a b : List Nat} (h : ltCps a b = true) : ltCps b a = false := by
  cases e : ltCps b a with
  | false => rfl
  | true =>
    have := lt_tr h e
    rw [lt_irr] at this
    cases this
/-- there is one way to put marks in their order -/
theorem asc_uniq : ∀ {xs ys : List Str}, Asc xs → Asc ys → xs.Perm ys → xs = ys
  | [], ys, _, _, p => (List.nil_perm.mp p).symm
  | x :: xs, [], _, _, p => absurd (List.perm_nil.mp p) (by simp)
  | x :: xs, y :: ys, hx, hy, p => by
    have h1 := List.pairwise_cons.mp hx
    have h2 := List.pairwise_cons.mp hy
    have e : x = y := by
      have mx : x ∈ y :: ys := p.mem_iff.mp List.mem_cons_self
      have my : y ∈ x :: xs := p.mem_iff.mpr List.mem_cons_self
      rcases List.mem_cons.mp mx with e | mx
      · exact e
      · rcases List.mem_cons.mp my with e | my
        · exact e.symm
        · have a1 := h2.1 x mx
          have a2 := h1.1 y my
          rw [lt_asym a1] at a2
          cases a2
    subst e
    rw [asc_uniq h1.2 h2.2 (List.perm_cons x |>.mp p)]
section
variable {P : Program} {w : World} {K : PySem.W.Frag} {mg : Str → Option Value} {base : Heap} {f : Addr} {fd : FuncData}
theorem scLawMid : FnScope ["_law_order", "_law_found", "_law_some", "_law_mark"] ["_law_order"] (defScope sLawMid) := ⟨rfl, rfl, rfl, by decide +kernel, rfl, by decide +kernel, by decide +kernel⟩
theorem ok_lawmid {fT : Addr} {dT : FuncData} (F : FnP K "_law_middle" sLawMid f fd) (hso : mg "sorted" = none)
    (GT : FnOk P w K mg base CX0 1 fT dT ["_law_marks_here"] (spThrees K)) (bT : Binds K dT ["_law_marks_here"] []) (kT : PySem.W.keepIn K (.ref fT) = true) (gT : mg "_law_threes" = some (.ref fT)) :
    FnOk P w K mg base CX0 2 f fd ["_law_order"] spLawMid := by
  refine F.ok scLawMid (fun vs H Q E h => ?_) (fun cdv A outer s H vs Q E hr h => ?_)
  · obtain ⟨o, ms, os, rfl, _⟩ := h
    rfl
  · obtain ⟨o, ms, os, rfl, ho, hm, hp, k⟩ := h
    have hu := hu_of hr
    refine ⟨_, PSs.nox (pss_cons (ps_set (i := 1) scLawMid.nd rfl (Or.inl rfl) pe_dnewT)
      (pss_cons (ps_for PassesOwn.never rfl (pi_list (pe_call GT hr rfl gT kT bT .nil pass0 (pa_cons (pe_callB cr_sortedS (by rfl) hso (by decide +kernel) (pa_cons (pv 0) pa_nil)) pa_nil))) (pg_name (i := 2) scLawMid.nd rfl (Or.inl rfl))
        (pss_one (ps_dput hu (pv 1) (pv 2) (pe_ix ix_list (pv 0) (pe_ix ix_list (pe_callB cr_sorted (by rfl) hso (by decide +kernel) (pa_cons (pe_lc (own := [("_law_mark", 3)]) (g := gName 3) (tt := tYes) (te := tBM K "list" (rIndex K) (tVar 0) (tCons (tVar 3) tNil)) rfl scLawMid.nd (pi_tup (pv 2)) (blkOk_by (own := [("_law_mark", 3)]) (N := ["_law_order", "_law_found", "_law_some", "_law_mark"]) (sc := defScope sLawMid) (by decide +kernel))
          (fun _ _ _ _ _ => pg_name (i := 3) scLawMid.nd rfl (Or.inl rfl)) (fun _ _ _ _ _ => pts_nil) (fun _ _ _ _ _ => pe_bm PySem.F.plainAttrs_list PySem.F.slot_list_index PySem.F.type_list_index mt_index (pv 0) (pa_cons (pv 3) pa_nil))) pa_nil)) pe_int (fun _ _ => rfl)) (fun _ _ => rfl)) rfl)))
      (pss_one (ps_ret (pv 1))))), ?_⟩
    refine fun L nL => ?_
    have sL := same_new (o := .dT []) nL
    have hoL := sL _ _ ho
    have few5 := hm.2.1
    refine ⟨_, rfl, o, os, rfl, SqL.of hoL, by rw [hp.length_eq]; omega, fun ss p perm sorted np => ?_⟩
    have es : ss = ms := asc_uniq (asc_of (perm.nodup_iff.mpr (hp.nodup_iff.mpr hm.2.2.1.nodup)) sorted) hm.2.2.1 (perm.trans hp)
    subst es
    have sp := same_new (o := .lst (ss.map V.str)) np
    refine ⟨p, ss, rfl, SqL.of upd_same, hm.2.1, fun T ts H3 nT hT pT s3 => ?_⟩
    have LT : L ≠ T := fun q => by
      rw [← q] at nT
      rw [sp _ _ upd_same] at nT
      cases nT
    have h3L := s3 _ _ (sp _ _ (upd_same (H := H) (a := L) (o := .dT [])))
    have nd := growN_nodup hm.2.2.1.nodup 3
    have few : (growN ss 3).length ≤ 125 := by
      rw [growN_len]
      exact Nat.pow_le_pow_left hm.2.1 3
    refine ⟨T, rfl, ⟨_, SqL.of hT⟩, for_list (K := K) (a := T) (xs := ts.map V.ref) (fun i σ Hc => ∃ v2 v3 : Option V, σ = [some (.ref o), some (.ref L), v2, v3] ∧ Hc L = some (.dT (((growN ss 3).take i).map fun k => (k, midOf os k))) ∧ But L H3 Hc)
      ⟨none, none, rfl, h3L, But.refl L H3⟩ (fun i σ Hc _ ⟨_, _, _, _, z⟩ => SqL.of (z _ _ LT.symm hT)) ?_ ?_⟩
    · rintro i u σ Hc hi ⟨v2, v3, rfl, hL, hB⟩
      rw [List.getElem?_map] at hi
      obtain ⟨t, et, rfl⟩ := Option.map_eq_some_iff.mp hi
      obtain ⟨kk, ek, ht0⟩ := paired_at' pT et
      have ilt : i < (growN ss 3).length := (List.getElem?_eq_some_iff.mp ek).1
      obtain ⟨x, y, z, hx', hy', hz', rfl⟩ := grow3_form (List.mem_of_getElem? ek)
      have hx := hp.mem_iff.mpr hx'
      have hy := hp.mem_iff.mpr hy'
      have hz := hp.mem_iff.mpr hz'
      have tL : t ≠ L := fun q => by
        have z : H3 t = some (.tup _) := ht0
        rw [q, h3L] at z
        cases z
      have ht : Hc t = some (.tup [V.str x, V.str y, V.str z]) := hB _ _ tL ht0
      have oL : o ≠ L := ne_of_none ho nL
      have hoc : Hc o = some (.lst (os.map V.str)) := hB _ _ oL (s3 _ _ (sp _ _ hoL))
      have xyz : [V.str x, V.str y, V.str z] = [x, y, z].map V.str := rfl
      refine ⟨_, rfl, _, rfl, t, rfl, ⟨_, SqT.of ht⟩, fun D hD => ?_⟩
      refine lc_tup (K := K) (a := t) (xs := [V.str x, V.str y, V.str z]) (fun i Hx => Hx D = some (.lst ((([x, y, z].take i).map (idx os)).map V.int)) ∧ Same Hc Hx) ⟨upd_same, same_new hD⟩ (fun i Hx _ q => SqT.of (q.2 _ _ ht)) ?_ ?_
      · rintro i v Hx hv ⟨q1, q2⟩
        rw [xyz, List.getElem?_map] at hv
        obtain ⟨c, ec, rfl⟩ := Option.map_eq_some_iff.mp hv
        have hi : i < 3 := (List.getElem?_eq_some_iff.mp ec).1
        have hc : c ∈ os := by
          have := List.mem_of_getElem? ec
          simp only [List.mem_cons, List.not_mem_nil, or_false] at this
          rcases this with rfl | rfl | rfl
          · exact hx
          · exact hy
          · exact hz
        obtain ⟨j, ej, hj, before⟩ := idx_at hc
        have hox := q2 _ _ hoc
        refine ⟨rfl, ?_⟩
        refine ⟨_, rfl, .inl ⟨rfl, _, SqL.of hox⟩, _, rfl, o, os.map V.str, .str c, j, .str c, rfl, rfl, SqL.of hox, rfl, flat_strs' os, by rw [List.getElem?_map, hj] <;> rfl, beq_self_eq_true c, fun m z' hm hz' => ?_, ?_⟩
        · rw [List.getElem?_map] at hz'
          obtain ⟨y', ey, rfl⟩ := Option.map_eq_some_iff.mp hz'
          show (y' == c) = false
          exact beq_eq_false_iff_ne.mpr (before m y' hm ey)
        · refine ⟨_, q1, ?_, ?_, fun b o e => (upd_ne (ne_of_none e hD)).trans (q2 _ _ e)⟩
          · rw [List.length_map, List.length_map, List.length_take]
            exact len_ok (by simp only [List.length_cons, List.length_nil]; omega)
          · rw [upd_same, List.take_add_one, ec, List.map_append, List.map_append, ← ej]
            rfl
      · rintro Hx ⟨q1, q2⟩
        have q1 : Hx D = some (.lst ([idx os x, idx os y, idx os z].map V.int)) := q1
        refine ⟨D, _, rfl, SqL.of q1, (by show 3 < 64; decide), fun ns p perm sorted np => ?_⟩
        have hmed := med_of perm sorted
        obtain ⟨c, hc, em⟩ : ∃ c ∈ os, med (idx os x) (idx os y) (idx os z) = idx os c := by
          rcases med_in (idx os x) (idx os y) (idx os z) with h | h | h
          · exact ⟨x, hx, h⟩
          · exact ⟨y, hy, h⟩
          · exact ⟨z, hz, h⟩
        obtain ⟨j, ej, hj, _⟩ := idx_at hc
        have sq := same_new (o := .lst (ns.map V.int)) np
        have hv : (os.map V.str)[j]? = some (V.str c) := by rw [List.getElem?_map, hj] <;> rfl
        have e1 : midOf os [.inr x, .inr y, .inr z] = V.str c := by
          show (os.map V.str).getD (med (idx os x) (idx os y) (idx os z)).toNat .non = _
          rw [em, ej, Int.toNat_natCast, List.getD_eq_getElem?_getD, hv] <;> rfl
        have hL4 := sq _ _ (q2 _ _ hL)
        refine ⟨p, ns.map V.int, 1, .int (med (idx os x) (idx os y) (idx os z)), rfl, rfl, SqL.of upd_same, atI_nat (j := 1) (by rw [List.getElem?_map, hmed] <;> rfl), o, os.map V.str, _, V.str c, rfl, rfl, SqL.of (sq _ _ (q2 _ _ hoc)), ?_, ?_⟩
        · rw [em, ej]
          exact atI_nat hv
        · refine ⟨_, rfl, _, rfl, L, _, rfl, DPut.t (k := [Sum.inr x, Sum.inr y, Sum.inr z]) hL4 (sq _ _ (q2 _ _ ht)) ?_, _, _, rfl, ?_, fun b o n e => (upd_ne n).trans (sq _ _ (q2 _ _ (hB _ _ n e)))⟩
          · rw [List.length_map, List.length_take]
            exact len_ok (by omega)
          · rw [upd_same, ← e1, way_more nd ek]
    · rintro σ Hc ⟨v2, v3, rfl, hL, hB⟩
      rw [List.length_map, Paired.length pT, List.take_length] at hL
      exact ⟨_, rfl, k L Hc nL hL fun b o e => hB _ _ (ne_of_none e nL) (s3 _ _ (sp _ _ (sL _ _ e)))⟩
end
end Yt

set_option Elab.async false
set_option linter.all false
set_option maxRecDepth 100000
set_option maxHeartbeats 2000000
namespace Yt
open PySem PySem.Spec PyProof.Rows L2
abbrev sUnlike : Stmt := top 18
/-- the rows of three unlike marks -/
def isFree (k : List Key) : Bool := decide (twK k = V.non)
def freeK (ms : List Str) : List (List Key) := (growN ms 3).filter isFree
def spFree (K : PySem.W.Frag) : Sp := fun vs H Q _ => ∃ (a : Addr) (ms : List Str), vs = [.ref a] ∧ SqL K H a (ms.map V.str) ∧ ms.length ≤ 5 ∧
  ∀ (L : Addr) (ts : List Addr) (H' : Hp), H L = none → H' L = some (.lst (ts.map V.ref)) → Paired (TupAt H') ts (freeK ms) → Same H H' → Q (.ref L) H'
section
variable {P : Program} {w : World} {K : PySem.W.Frag} {mg : Str → Option Value} {base : Heap} {f : Addr} {fd : FuncData}
theorem scUnlike : FnScope ["marks", "three"] ["marks"] (defScope sUnlike) := ⟨rfl, rfl, rfl, by decide +kernel, rfl, by decide +kernel, by decide +kernel⟩
theorem ok_unlike {fT f2 : Addr} {dT d2 : FuncData} (F : FnP K "unlike_threes_of" sUnlike f fd)
    (GT : FnOk P w K mg base CX0 1 fT dT ["marks"] (spThrees K)) (bT : Binds K dT ["marks"] []) (kT : PySem.W.keepIn K (.ref fT) = true) (gT : mg "threes_of" = some (.ref fT))
    (G2 : FnOk P w K mg base CX0 1 f2 d2 ["three"] spTwice) (b2 : Binds K d2 ["three"] []) (k2 : PySem.W.keepIn K (.ref f2) = true) (g2 : mg "mark_twice_in" = some (.ref f2)) :
    FnOk P w K mg base CX0 2 f fd ["marks"] (spFree K) := by
  refine F.ok scUnlike (fun vs H Q E h => ?_) (fun cdv A outer s H vs Q E hr h => ?_)
  · obtain ⟨a, ms, rfl, _⟩ := h
    rfl
  · obtain ⟨a, ms, rfl, hS, few5, k⟩ := h
    refine ⟨_, PSs.nox (pss_one (ps_ret (pe_lc (own := [("three", 1)]) (g := gName 1) rfl scUnlike.nd (pi_list (pe_call GT hr rfl gT kT bT .nil pass0 (pa_cons (pv 0) pa_nil))) (blkOk_by (own := [("three", 1)]) (N := ["marks", "three"]) (sc := defScope sUnlike) (by decide +kernel))
        (fun _ _ _ _ _ => pg_name (i := 1) scUnlike.nd rfl (Or.inl rfl)) (fun _ _ _ _ _ => pts_one (pt_cmpR op_isN (pe_call G2 hr rfl g2 k2 b2 .nil pass0 (pa_cons (pv 1) pa_nil)) pe_non (nomark _))) (fun _ _ _ _ _ => pv 1)))), ?_⟩
    refine ⟨_, rfl, a, ms, rfl, hS, few5, fun L ts H1 nL hL hT s1 => ⟨L, rfl, ⟨_, SqL.of hL⟩, fun D hD => ?_⟩⟩
    have few : (growN ms 3).length ≤ 125 := by
      rw [growN_len]
      exact Nat.pow_le_pow_left few5 3
    refine lc_list (K := K) (a := L) (xs := ts.map V.ref) (fun i Hx => ∃ rs : List Addr, Hx D = some (.lst (rs.map V.ref)) ∧ Paired (fun r kk => r ≠ D ∧ TupAt Hx r kk) rs (((growN ms 3).take i).filter isFree) ∧ Same H1 Hx) ⟨[], upd_same, .nil, same_new hD⟩ (fun i Hx _ ⟨_, _, _, z⟩ => SqL.of (z _ _ hL)) ?_ ?_
    · rintro i x Hx hx ⟨rs, q1, q2, q3⟩
      rw [List.getElem?_map] at hx
      obtain ⟨t, et, rfl⟩ := Option.map_eq_some_iff.mp hx
      obtain ⟨kk, ek, ht0⟩ := paired_at' hT et
      have ht := q3 _ _ ht0
      have tD : t ≠ D := ne_of_none ht0 hD
      obtain ⟨x, y, z, _, _, _, rfl⟩ := grow3_form (List.mem_of_getElem? ek)
      have et1 : (growN ms 3).take (i + 1) = (growN ms 3).take i ++ [[Sum.inr x, Sum.inr y, Sum.inr z]] := by rw [List.take_add_one, ek] <;> rfl
      refine ⟨rfl, ?_⟩
      refine ⟨_, rfl, t, x, y, z, rfl, ht, rfl, isFree [Sum.inr x, Sum.inr y, Sum.inr z], rfl, ?_⟩
      cases hf : isFree [Sum.inr x, Sum.inr y, Sum.inr z] with
      | false =>
        refine iteF ⟨rs, q1, ?_, q3⟩
        rw [et1, List.filter_append, List.filter_cons_of_neg (by rw [hf]; decide), List.filter_nil, List.append_nil]
        exact q2
      | true =>
        refine iteT ?_
        have fl : rs.length ≤ 125 := by
          rw [Paired.length q2]
          have h1 := List.length_filter_le isFree ((growN ms 3).take i)
          rw [List.length_take] at h1
          omega
        refine ⟨_, rfl, _, q1, ?_, rs ++ [t], by rw [upd_same, List.map_append] <;> rfl, ?_, fun b o e => (upd_ne (ne_of_none e hD)).trans (q3 _ _ e)⟩
        · rw [List.length_map]
          exact len_ok (by omega)
        · rw [et1, List.filter_append, List.filter_cons_of_pos hf, List.filter_nil]
          exact Paired.snoc (Paired.mapP q2 fun r kk h => ⟨h.1, (upd_ne h.1).trans h.2⟩) ⟨tD, (upd_ne tD).trans ht⟩
    · rintro Hx ⟨rs, q1, q2, q3⟩
      rw [List.length_map, Paired.length hT, List.take_length] at q2
      have nD : H D = none := by
        cases e : H D with
        | none => rfl
        | some o =>
          rw [s1 _ _ e] at hD
          cases hD
      exact k D rs Hx nD q1 (Paired.mapP q2 fun r kk h => h.2) fun b o e => q3 _ _ (s1 _ _ e)
end
end Yt

set_option Elab.async false
set_option linter.all false
set_option maxRecDepth 100000
set_option maxHeartbeats 2000000
namespace Yt
open PySem PySem.Spec PyProof.Rows L2
abbrev sMany : Stmt := top 27
abbrev sCounted : Stmt := top 29
section
variable {P : Program} {w : World} {K : PySem.W.Frag} {mg : Str → Option Value} {base : Heap} {f : Addr} {fd : FuncData}
abbrev MarksArg : Hp → List V → Prop := fun H vs => ∃ a ms, vs = [.ref a] ∧ H a = some (.lst (ms.map V.str)) ∧ MarksOk ms
abbrev MarksArg3 : Hp → List V → Prop := fun H vs => ∃ a ms, vs = [.ref a] ∧ H a = some (.lst (ms.map V.str)) ∧ MarksOk ms ∧ ms.length ≤ 3
theorem scCounted : FnScope ["marks"] ["marks"] (defScope sCounted) := ⟨rfl, rfl, rfl, by decide +kernel, rfl, by decide +kernel, by decide +kernel⟩
theorem ok_counted {fC : Addr} {dC : FuncData} {t : Tok} (F : FnP K "_check_counted_marks" sCounted f fd) (T : Nm mg) (gM : mg "MOST_COUNTED_MARKS" = some (.int 3 t))
    (GC : FnOk P w K mg base CX0 3 fC dC ["marks"] (spNon MarksArg)) (bC : Binds K dC ["marks"] []) (kC : PySem.W.keepIn K (.ref fC) = true) (gC : mg "check_marks" = some (.ref fC)) :
    FnOk P w K mg base CX0 4 f fd ["marks"] (spNon MarksArg3) := by
  refine F.ok scCounted (fun vs H Q E h => ?_) (fun cdv A outer s H vs Q E hr h => ?_)
  · obtain ⟨⟨a, ms, rfl, _⟩, _⟩ := h
    rfl
  · obtain ⟨⟨a, ms, rfl, ha, hm, h3⟩, k⟩ := h
    refine ⟨_, PSs.nox (pss_cons (ps_expr (pe_call GC hr rfl gC kC bC .nil pass0 (pa_cons (pv 0) pa_nil)))
      (pss_one (ps_if (pt_cmpR op_gt (pe_callB call_len (by rfl) T.len PySem.boot_len (pa_cons (pv 0) pa_nil)) (pe_glob (v := .int 3) rfl gM ⟨_, rfl⟩) (nomark _)) (pss_one ps_never) pss_nil))), ?_⟩
    refine ⟨_, rfl, ⟨a, ms, rfl, ha, hm⟩, fun H1 s1 => ?_⟩
    refine ⟨_, rfl, _, (ms.map V.str).length, rfl, Or.inl ⟨_, SqL.of (s1 _ _ ha), rfl⟩, _, _, rfl, rfl, false, ?_, ?_⟩
    · show V.bl (decide ((3 : Int) < ((ms.map V.str).length : Nat))) = _
      rw [List.length_map, decide_eq_false (show ¬ ((3 : Int) < (ms.length : Nat)) by omega)]
    refine iteF ?_
    exact k H1 s1
def spMany : Sp := fun vs H Q _ => ∃ a ms, vs = [.ref a] ∧ H a = some (.lst (ms.map V.str)) ∧ MarksOk ms ∧ ms.length ≤ 3 ∧ ∀ H', Same H H' → Q (.int ((ms.length ^ (freeK ms).length : Nat) : Int)) H'
theorem scMany : FnScope ["marks", "many", "_"] ["marks"] (defScope sMany) := ⟨rfl, rfl, rfl, by decide +kernel, rfl, by decide +kernel, by decide +kernel⟩
theorem ok_many {fC fU : Addr} {dC dU : FuncData} (F : FnP K "many_majorities" sMany f fd) (T : Nm mg)
    (GC : FnOk P w K mg base CX0 4 fC dC ["marks"] (spNon MarksArg3)) (bC : Binds K dC ["marks"] []) (kC : PySem.W.keepIn K (.ref fC) = true) (gC : mg "_check_counted_marks" = some (.ref fC))
    (GU : FnOk P w K mg base CX0 2 fU dU ["marks"] (spFree K)) (bU : Binds K dU ["marks"] []) (kU : PySem.W.keepIn K (.ref fU) = true) (gU : mg "unlike_threes_of" = some (.ref fU)) :
    FnOk P w K mg base CX0 5 f fd ["marks"] spMany := by
  refine F.ok scMany (fun vs H Q E h => ?_) (fun cdv A outer s H vs Q E hr h => ?_)
  · obtain ⟨a, ms, rfl, _⟩ := h
    rfl
  · obtain ⟨a, ms, rfl, ha, hm, h3, k⟩ := h
    refine ⟨_, PSs.nox (pss_cons (ps_expr (pe_call GC hr rfl gC kC bC .nil pass0 (pa_cons (pv 0) pa_nil)))
      (pss_cons (ps_set (i := 1) scMany.nd rfl (Or.inl rfl) pe_int)
      (pss_cons (ps_for PassesOwn.never rfl (pi_list (pe_call GU (hr.mono (by decide)) rfl gU kU bU .nil pass0 (pa_cons (pv 0) pa_nil))) (pg_name (i := 2) scMany.nd rfl (Or.inl rfl))
        (pss_one (ps_set (i := 1) scMany.nd rfl (Or.inl rfl) (pe_op op_mul (pv 1) (pe_callB call_len (by rfl) T.len PySem.boot_len (pa_cons (pv 0) pa_nil))))))
      (pss_one (ps_ret (pv 1)))))), ?_⟩
    refine ⟨_, rfl, ⟨a, ms, rfl, ha, hm, h3⟩, fun H1 s1 => ?_⟩
    refine ⟨_, rfl, a, ms, rfl, SqL.of (s1 _ _ ha), hm.2.1, fun L ts H2 nL hL hT s2 => ?_⟩
    have ha2 := s2 _ _ (s1 _ _ ha)
    have fl : (freeK ms).length ≤ 27 := by
      have h1 := List.length_filter_le isFree (growN ms 3)
      have h2 : (growN ms 3).length ≤ 27 := by
        rw [growN_len]
        exact Nat.pow_le_pow_left h3 3
      unfold freeK
      omega
    refine ⟨L, rfl, ⟨_, SqL.of hL⟩, for_list (K := K) (a := L) (xs := ts.map V.ref) (fun i σ Hc => ∃ v2 : Option V, σ = [some (.ref a), some (.int ((ms.length ^ i : Nat) : Int)), v2] ∧ Hc = H2)
      ⟨none, rfl, rfl⟩ (fun i σ Hc _ ⟨_, _, z⟩ => by rw [z]; exact SqL.of hL) ?_ ?_⟩
    · rintro i u σ Hc hi ⟨v2, rfl, rfl⟩
      have il : i < 27 := by
        have h1 := (List.getElem?_eq_some_iff.mp hi).1
        rw [List.length_map, Paired.length hT] at h1
        omega
      refine ⟨_, rfl, _, rfl, _, (ms.map V.str).length, rfl, Or.inl ⟨_, SqL.of ha2, rfl⟩, ?_⟩
      have pw : ms.length ^ i ≤ 3 ^ 27 := Nat.le_trans (Nat.pow_le_pow_left h3 i) (Nat.pow_le_pow_right (by decide) (by omega))
      have p27 : (3 : Nat) ^ 27 ≤ 7625597484987 := by decide
      refine ⟨_, _, rfl, rfl, ?_, ?_⟩
      · rw [List.length_map]
        exact .inl ⟨by omega, by omega⟩
      · have e1 : (((ms.length ^ i : Nat) : Int) * (((ms.map V.str).length : Nat) : Int)) = ((ms.length ^ (i + 1) : Nat) : Int) := by
          rw [List.length_map, Nat.pow_succ, Int.natCast_mul]
        show ∃ v : Option V, [some (V.ref a), some (V.int (((ms.length ^ i : Nat) : Int) * (((ms.map V.str).length : Nat) : Int))), some u] = [some (V.ref a), some (V.int ((ms.length ^ (i + 1) : Nat) : Int)), v] ∧ Hc = Hc
        rw [e1]
        exact ⟨_, rfl, rfl⟩
    · rintro σ Hc ⟨v2, rfl, rfl⟩
      rw [List.length_map, Paired.length hT]
      exact ⟨_, rfl, k _ fun b o e => s2 _ _ (s1 _ _ e)⟩
end
end Yt

set_option Elab.async false
set_option linter.all false
set_option maxRecDepth 100000
set_option maxHeartbeats 2000000
namespace Yt
open PySem PySem.Spec PyProof.Rows L2
abbrev sMajAt : Stmt := top 28
/-- what the figures of a number give to the rows, the lowest figure first -/
def digs (ms : List Str) : List (List Key) → Nat → List (List Key × V)
  | [], _ => []
  | k :: r, n => (k, (ms.map V.str).getD (n % ms.length) .non) :: digs ms r (n / ms.length)
theorem digs_keys (ms : List Str) : ∀ (L : List (List Key)) (n : Nat), (digs ms L n).map (·.1) = L
  | [], _ => rfl
  | k :: r, n => by rw [digs, List.map_cons, digs_keys ms r]
theorem digs_more (ms : List Str) : ∀ (L : List (List Key)) (n i : Nat) (k : List Key), L[i]? = some k → digs ms (L.take (i + 1)) n = digs ms (L.take i) n ++ [(k, (ms.map V.str).getD (n / ms.length ^ i % ms.length) .non)]
  | [], _, _, _, h => by simp at h
  | x :: r, n, 0, k, h => by
    cases Option.some.inj h
    simp [digs]
  | x :: r, n, i + 1, k, h => by
    have h' : r[i]? = some k := by simpa using h
    have e := digs_more ms r (n / ms.length) i k h'
    rw [List.take_succ_cons, List.take_succ_cons, digs, digs, e, List.cons_append, Nat.div_div_eq_div_mul, ← Nat.pow_succ']
def majG (ms : List Str) (n : Nat) (k : List Key) : V := if twK k = .non then (valV (digs ms (freeK ms).reverse n) k).getD .non else twK k
def spMajAt : Sp := fun vs H Q _ => ∃ (a : Addr) (ms : List Str) (n : Nat), vs = [.ref a, .int n] ∧ H a = some (.lst (ms.map V.str)) ∧ MarksOk ms ∧ ms.length ≤ 3 ∧ n < ms.length ^ (freeK ms).length ∧
  ∀ (L : Addr) (H' : Hp), H L = none → H' L = some (.dT (wayOf ms (majG ms n))) → Same H H' → Q (.ref L) H'
section
variable {P : Program} {w : World} {K : PySem.W.Frag} {mg : Str → Option Value} {base : Heap} {f : Addr} {fd : FuncData}
theorem scMajAt : FnScope ["marks", "number", "given", "three", "figure"] ["marks", "number"] (defScope sMajAt) := ⟨rfl, rfl, rfl, by decide +kernel, rfl, by decide +kernel, by decide +kernel⟩
theorem ok_majat {fC fN fM fU f2 fT : Addr} {dC dN dM dU d2 dT : FuncData} (F : FnP K "majority_at" sMajAt f fd) (T : Nm mg) (hdm : mg "divmod" = none) (hrv : mg "reversed" = none)
    (GC : FnOk P w K mg base CX0 4 fC dC ["marks"] (spNon MarksArg3)) (bC : Binds K dC ["marks"] []) (kC : PySem.W.keepIn K (.ref fC) = true) (gC : mg "_check_counted_marks" = some (.ref fC))
    (GN : FnOk P w K mg base CX0 1 fN dN ["value"] (spYes fun _ vs => ∃ n : Int, vs = [.int n] ∧ 0 ≤ n)) (bN : Binds K dN ["value"] []) (kN : PySem.W.keepIn K (.ref fN) = true) (gN : mg "is_count" = some (.ref fN))
    (GM : FnOk P w K mg base CX0 5 fM dM ["marks"] spMany) (bM : Binds K dM ["marks"] []) (kM : PySem.W.keepIn K (.ref fM) = true) (gM : mg "many_majorities" = some (.ref fM))
    (GU : FnOk P w K mg base CX0 2 fU dU ["marks"] (spFree K)) (bU : Binds K dU ["marks"] []) (kU : PySem.W.keepIn K (.ref fU) = true) (gU : mg "unlike_threes_of" = some (.ref fU))
    (G2 : FnOk P w K mg base CX0 1 f2 d2 ["three"] spTwice) (b2 : Binds K d2 ["three"] []) (k2 : PySem.W.keepIn K (.ref f2) = true) (g2 : mg "mark_twice_in" = some (.ref f2))
    (GT : FnOk P w K mg base CX0 1 fT dT ["marks"] (spThrees K)) (bT : Binds K dT ["marks"] []) (kT : PySem.W.keepIn K (.ref fT) = true) (gT : mg "threes_of" = some (.ref fT)) :
    FnOk P w K mg base CX0 6 f fd ["marks", "number"] spMajAt := by
  refine F.ok scMajAt (fun vs H Q E h => ?_) (fun cdv A outer s H vs Q E hr h => ?_)
  · obtain ⟨a, ms, n, rfl, _⟩ := h
    rfl
  · obtain ⟨a, ms, n, rfl, ha, hm, h3, hn, k⟩ := h
    have hu := hu_of hr
    refine ⟨_, PSs.nox (pss_cons (ps_expr (pe_call GC (hr.mono (by decide)) rfl gC kC bC .nil pass0 (pa_cons (pv 0) pa_nil)))
      (pss_cons (ps_if (PW.pt (pw_or (pt_not (pt_val (pe_call GN (hr.mono (by decide)) rfl gN kN bN .nil pass0 (pa_cons (pv 1) pa_nil)))) (pw_or1 (pt_cmpR op_ge (pv 1) (pe_call GM hr rfl gM kM bM .nil pass0 (pa_cons (pv 0) pa_nil)) (nomark _))))) (pss_one ps_never) pss_nil)
      (pss_cons (ps_set (i := 2) scMajAt.nd rfl (Or.inr rfl) pe_dnewT)
      (pss_cons (ps_for PassesOwn.never rfl (pi_reversed rfl hrv (pa_cons (pe_call GU (hr.mono (by decide)) rfl gU kU bU .nil pass0 (pa_cons (pv 0) pa_nil)) pa_nil)) (pg_name (i := 3) scMajAt.nd rfl (Or.inl rfl))
        (pss_cons (ps_asg (pe_callB call_divmod (by rfl) hdm (by decide +kernel) (pa_cons (pv 1) (pa_cons (pe_callB call_len (by rfl) T.len PySem.boot_len (pa_cons (pv 0) pa_nil)) pa_nil))) (pg_tup rfl (pgs_cons (pg_name (i := 1) scMajAt.nd rfl (Or.inl rfl)) (pgs_cons (pg_name (i := 4) scMajAt.nd rfl (Or.inl rfl)) pgs_nil))))
        (pss_one (ps_dput hu (pv 2) (pv 3) (pe_ix ix_list (pv 0) (pv 4) (fun _ _ => rfl)) rfl))))
      (pss_one (ps_ret (pe_dcT (own := [("three", 3)]) (g := gName 3) (tt := tYes) (tk := tVar 3) (tv := tOrT K (tCall spTwice [] E0 (tCons (tVar 3) tNil)) (tDGet (tVar 2) (tVar 3))) rfl scMajAt.nd (Nat.lt_of_succ_lt hu) (pi_list (pe_call GT (hr.mono (by decide)) rfl gT kT bT .nil pass0 (pa_cons (pv 0) pa_nil))) (blkOk_by (own := [("three", 3)]) (N := ["marks", "number", "given", "three", "figure"]) (sc := defScope sMajAt) (by decide +kernel))
        (fun _ _ _ _ _ => pg_name (i := 3) scMajAt.nd rfl (Or.inl rfl)) (fun _ _ _ _ _ => pts_nil) (fun _ _ _ _ _ => pv 3) (fun _ _ _ _ _ => pe_orT (pe_call G2 (hr.mono (by decide)) rfl g2 k2 b2 .nil pass0 (pa_cons (pv 3) pa_nil)) (pe_one (pe_dget hu (pv 2) (pv 3) (fun _ _ => rfl))))))))))), ?_⟩
    have m0 : 0 < ms.length := hm.1
    have nd := growN_nodup hm.2.2.1.nodup 3
    have fnd : (freeK ms).Nodup := List.Pairwise.filter _ nd
    have rnd : (freeK ms).reverse.Nodup := (List.reverse_perm (freeK ms)).nodup_iff.mpr fnd
    have few : (growN ms 3).length ≤ 125 := by
      rw [growN_len]
      exact Nat.pow_le_pow_left hm.2.1 3
    have fl : (freeK ms).length ≤ 125 := Nat.le_trans (List.length_filter_le isFree (growN ms 3)) few
    refine ⟨_, rfl, ⟨a, ms, rfl, ha, hm, h3⟩, fun H1 s1 => ?_⟩
    refine ⟨_, rfl, ⟨n, rfl, by omega⟩, fun H2 s2 => ⟨true, rfl, ?_⟩⟩
    refine iteF ?_
    have a2 := s2 _ _ (s1 _ _ ha)
    refine ⟨_, rfl, _, rfl, a, ms, rfl, a2, hm, h3, fun H3 s3 => ⟨_, _, rfl, rfl, false, ?_, ?_⟩⟩
    · show V.bl (decide (((ms.length ^ (freeK ms).length : Nat) : Int) ≤ (n : Nat))) = _
      rw [decide_eq_false (by omega)]
    refine iteF ?_
    have s13 : Same H H3 := fun b o e => s3 _ _ (s2 _ _ (s1 _ _ e))
    refine fun G nG => ?_
    have sG := same_new (o := .dT []) nG
    have aG := sG _ _ (s13 _ _ ha)
    refine ⟨_, rfl, a, ms, rfl, SqL.of aG, hm.2.1, fun L ts H4 nL hL hT s4 => ?_⟩
    have hG4 := s4 _ _ (upd_same (H := H3) (a := G) (o := .dT []))
    have LG : L ≠ G := fun q => by
      rw [q, upd_same] at nL
      cases nL
    have aG' : a ≠ G := ne_of_none (s13 _ _ ha) nG
    have tl : ts.length = (freeK ms).length := Paired.length hT
    refine ⟨L, ts.map V.ref, rfl, SqL.of hL, for_it (walk_rev (K := K) (a := L) (xs := ts.map V.ref)) (fun i σ Hc => ∃ v3 v4 : Option V, σ = [some (.ref a), some (.int ((n / ms.length ^ i : Nat) : Int)), some (.ref G), v3, v4] ∧ Hc G = some (.dT (digs ms ((freeK ms).reverse.take i) n)) ∧ But G H4 Hc)
      ⟨none, none, by rw [Nat.pow_zero, Nat.div_one] <;> rfl, hG4, But.refl G H4⟩ (fun i σ Hc _ ⟨_, _, _, _, z⟩ => SqL.of (z _ _ LG hL)) ?_ ?_⟩
    · rintro i x σ Hc H' hi ⟨v3, v4, rfl, hG, hB⟩ ⟨rfl, ex⟩
      rw [List.length_map] at hi ex
      rw [List.getElem?_map] at ex
      obtain ⟨t, et, rfl⟩ := Option.map_eq_some_iff.mp ex
      obtain ⟨kk, ek, ht0⟩ := paired_at' hT et
      have er : (freeK ms).reverse[i]? = some kk := by
        rw [List.getElem?_reverse (by omega), ← tl]
        exact ek
      have tG : t ≠ G := fun q => by
        have z : H4 t = some (.tup _) := ht0
        rw [q, hG4] at z
        cases z
      have ac := hB _ _ aG' (s4 _ _ aG)
      refine ⟨_, rfl, _, rfl, _, (ms.map V.str).length, rfl, Or.inl ⟨_, SqL.of ac, rfl⟩, _, _, rfl, ⟨by rw [List.length_map]; omega, by rw [List.length_map]; omega⟩, fun p np => ?_⟩
      refine ⟨p, _, rfl, SqT.of upd_same, rfl, _, _, rfl, _, _, rfl, rfl, ?_⟩
      have e1 : (((n / ms.length ^ i : Nat) : Int) / (((ms.map V.str).length : Nat) : Int)) = ((n / ms.length ^ (i + 1) : Nat) : Int) := by
        rw [List.length_map, ← Int.natCast_ediv, Nat.div_div_eq_div_mul, ← Nat.pow_succ]
      have e2 : (((n / ms.length ^ i : Nat) : Int) % (((ms.map V.str).length : Nat) : Int)) = ((n / ms.length ^ i % ms.length : Nat) : Int) := by
        rw [List.length_map, ← Int.natCast_emod]
      rw [e1, e2]
      have sp := same_new (o := .tup [V.int ((n / ms.length ^ (i + 1) : Nat) : Int), V.int ((n / ms.length ^ i % ms.length : Nat) : Int)]) np
      have lt : n / ms.length ^ i % ms.length < (ms.map V.str).length := by
        rw [List.length_map]
        exact Nat.mod_lt _ m0
      have hv := List.getElem?_eq_getElem lt
      have ev : (ms.map V.str).getD (n / ms.length ^ i % ms.length) .non = (ms.map V.str)[n / ms.length ^ i % ms.length] := by
        rw [List.getD_eq_getElem?_getD, hv] <;> rfl
      refine ⟨_, rfl, _, rfl, a, ms.map V.str, _, _, rfl, rfl, SqL.of (sp _ _ ac), atI_nat hv, _, rfl, _, rfl, G, _, rfl, DPut.t (k := kk) (sp _ _ hG) (sp _ _ (hB _ _ tG ht0)) ?_, _, _, rfl, ?_, fun b o ne e => (upd_ne ne).trans (sp _ _ (hB _ _ ne e))⟩
      · rw [← List.length_map (f := (·.1)), digs_keys, List.length_take, List.length_reverse]
        exact len_ok (by omega)
      · have fresh : kk ∉ (digs ms ((freeK ms).reverse.take i) n).map (·.1) := by
          rw [digs_keys]
          intro z
          rw [← List.take_append_drop (i + 1) (freeK ms).reverse, List.take_add_one, er] at rnd
          exact (List.nodup_append.mp (List.nodup_append.mp rnd).1).2.2 kk z kk (by simp) rfl
        rw [upd_same, putK_new fresh, digs_more ms _ n i kk er, ev]
    · rintro σ Hc ⟨v3, v4, rfl, hG, hB⟩
      have er : (ts.map V.ref).length = (freeK ms).reverse.length := by rw [List.length_map, tl, List.length_reverse]
      rw [er, List.take_length] at hG
      have ac := hB _ _ aG' (s4 _ _ aG)
      refine ⟨_, rfl, a, ms, rfl, SqL.of ac, hm.2.1, fun L5 us H5 nL5 hL5 hT5 s5 => ⟨L5, rfl, ⟨_, SqL.of hL5⟩, fun D hD => ?_⟩⟩
      have hG5 := s5 _ _ hG
      refine dcT_list (K := K) (a := L5) (xs := us.map V.ref) (fun i Hx => Hx D = some (.dT (((growN ms 3).take i).map fun k => (k, majG ms n k))) ∧ Same H5 Hx) ⟨upd_same, same_new hD⟩ (fun i Hx _ z => SqL.of (z.2 _ _ hL5)) ?_ ?_
      · rintro i x Hx hx ⟨q1, q2⟩
        rw [List.getElem?_map] at hx
        obtain ⟨t, et, rfl⟩ := Option.map_eq_some_iff.mp hx
        obtain ⟨kk, ek, ht⟩ := paired_at' hT5 et
        have ht' := q2 _ _ ht
        have kmem := List.mem_of_getElem? ek
        obtain ⟨x, y, z, hx', hy', hz', rfl⟩ := grow3_form kmem
        have put : ∀ (v : V), majG ms n [Sum.inr x, Sum.inr y, Sum.inr z] = v → stT D (.ref t) v Hx (fun Hx => Hx D = some (.dT (((growN ms 3).take (i + 1)).map fun k => (k, majG ms n k))) ∧ Same H5 Hx) := by
          rintro v rfl
          refine ⟨_, [Sum.inr x, Sum.inr y, Sum.inr z], t, rfl, ht', q1, ?_, ?_, fun b o e => (upd_ne (ne_of_none e hD)).trans (q2 _ _ e)⟩
          · rw [List.length_map, List.length_take]
            exact len_ok (by omega)
          · rw [upd_same, way_more nd ek]
        refine ⟨rfl, ?_⟩
        refine ⟨_, rfl, _, rfl, t, x, y, z, rfl, ht', ?_⟩
        by_cases hnon : twiceV x y z = .non
        · rw [hnon]
          refine ⟨false, rfl, ?_⟩
          refine iteF ?_
          have kf : [Sum.inr x, Sum.inr y, Sum.inr z] ∈ freeK ms := List.mem_filter.mpr ⟨kmem, by unfold isFree; exact decide_eq_true hnon⟩
          have kin : [Sum.inr x, Sum.inr y, Sum.inr z] ∈ (digs ms (freeK ms).reverse n).map (·.1) := by
            rw [digs_keys]
            exact List.mem_reverse.mpr kf
          obtain ⟨⟨k3, v⟩, hmem, e3⟩ := List.mem_map.mp kin
          have e3 : k3 = [Sum.inr x, Sum.inr y, Sum.inr z] := e3
          subst e3
          obtain ⟨j, ej⟩ := List.mem_iff_getElem?.mp hmem
          have gv : valV (digs ms (freeK ms).reverse n) [Sum.inr x, Sum.inr y, Sum.inr z] = some v := valV_at (by rw [digs_keys]; exact rnd) ej
          refine ⟨_, rfl, _, rfl, G, v, rfl, ?_, put v ?_⟩
          · have := DGet.t (q2 _ _ hG5) ht'
            rw [gv] at this
            exact this
          · unfold majG
            rw [if_pos (show twK [Sum.inr x, Sum.inr y, Sum.inr z] = V.non from hnon), gv]
            rfl
        · have hw : ∃ u, twiceV x y z = .str u ∧ WordOk u := by
            unfold twiceV at hnon ⊢
            split
            · exact ⟨x, rfl, hm.2.2.2 x hx'⟩
            · split
              · exact ⟨y, rfl, hm.2.2.2 y hy'⟩
              · rename_i h1 h2
                rw [if_neg h1, if_neg h2] at hnon
                exact absurd rfl hnon
          obtain ⟨u, eu, hu1⟩ := hw
          have hul : u.length ≤ sizeLine := by
            have := hu1.1
            rw [sizeLine_eq]
            omega
          rw [eu]
          refine ⟨true, ⟨hul, ?_⟩, ?_⟩
          · have := hu1.1.1
            symm
            rw [bne_iff_ne]
            omega
          · refine iteT ?_
            refine put _ ?_
            unfold majG
            rw [if_neg (show ¬ twK [Sum.inr x, Sum.inr y, Sum.inr z] = V.non from hnon)]
            exact eu
      · rintro Hx ⟨q1, q2⟩
        rw [List.length_map, Paired.length hT5, List.take_length] at q1
        have toD : ∀ b o, H b = some o → H5 b = some o := fun b o e => s5 _ _ (hB _ _ (ne_of_none (s13 _ _ e) nG) (s4 _ _ (sG _ _ (s13 _ _ e))))
        have nD : H D = none := by
          cases e : H D with
          | none => rfl
          | some o =>
            rw [toD _ _ e] at hD
            cases hD
        exact k D Hx nD q1 fun b o e => q2 _ _ (toD _ _ e)
end
end Yt

set_option Elab.async false
set_option linter.all false
set_option maxRecDepth 100000
set_option maxHeartbeats 2000000
namespace Yt
open PySem PySem.Spec PyProof.Rows L2
/-! ### zip of three tuples, each turn's tuple held by a name -/
theorem wp_alive {M : Model} {A : Around} {E : Value → Shared → Prop} {s : Shared} {a : Addr} {Q : Option Obj → Shared → Prop} (h : Q (s.heap.get? a) s) : wpAny M A (loadIfAlive a) Q E s := fun _ _ _ => h
abbrev Z3 (h : Heap) (z TI TO : Addr) (f0 f1 : Value) : Prop := h.get? z = some { cls := .type "zip", dict := none, data := .fields #[f0, f1, .bool false, .ref TI, .ref TO], slots := #[] }
abbrev Tri (h : Heap) (T : Addr) (a b c : Value) : Prop := h.get? T = some { cls := .type "tuple", data := .seq #[a, b, c] }
def Own (f : Value) : Prop := f = .none ∨ ∃ n : Nat, f = rawInt n
structure ZSt (h : Heap) (z TI TO i1 i2 i3 l1 l2 l3 : Addr) (k : Nat) : Prop where
  zz : ∃ f0 f1, Own f0 ∧ Z3 h z TI TO f0 f1
  ti : Tri h TI (.ref i1) (.ref i2) (.ref i3)
  out : ∃ a b c, Tri h TO a b c
  t1 : h.IsTupleIter i1 l1 k
  t2 : h.IsTupleIter i2 l2 k
  t3 : h.IsTupleIter i3 l3 k
structure ZAp (z TI TO i1 i2 i3 l1 l2 l3 : Addr) : Prop where
  nd : [z, TI, TO, i1, i2, i3].Nodup
  l1 : l1 ∉ [z, TI, TO, i1, i2, i3]
  l2 : l2 ∉ [z, TI, TO, i1, i2, i3]
  l3 : l3 ∉ [z, TI, TO, i1, i2, i3]
section
variable {P : Program} {w : World} {A : Around} {E : Value → Shared → Prop} {s : Shared} {z TI TO i1 i2 i3 l1 l2 l3 : Addr}
theorem tri_put {T : Addr} {a b c x : Value} {k : Nat} {Q : Unit → Shared → Prop} (hT : Tri s.heap T a b c)
    (h : ∀ h', (∃ a' b' c', (#[a, b, c] : Array Value).setIfInBounds k x = #[a', b', c'] ∧ Tri h' T a' b' c') → Heap.SameBut T s.heap h' → Q () { s with heap := h' }) : wpAny (model P w) A (updateSeq T (·.setIfInBounds k x)) Q E s := by
  refine wpAny_updateSeq hT rfl (h _ ?_ (Heap.SameBut.update ..))
  have e := Heap.get?_update_self (Obj.mapSeq (·.setIfInBounds k x)) hT rfl
  match k with
  | 0 => exact ⟨_, _, _, rfl, e⟩
  | 1 => exact ⟨_, _, _, rfl, e⟩
  | 2 => exact ⟨_, _, _, rfl, e⟩
  | k + 3 => exact ⟨a, b, c, by simp [Array.setIfInBounds], e.trans (by simp [Obj.mapSeq, Array.setIfInBounds])⟩
/-- is the tuple of the turn ahead let go? whichever -/
theorem own_free {Q : Bool → Shared → Prop} {f0 f1 : Value} (o : Own f0) (hz : Z3 s.heap z TI TO f0 f1) (h : ∀ (b : Bool) h' g1, Heap.SameBut z s.heap h' → Z3 h' z TI TO f0 g1 → Q b { s with heap := h' }) :
    wpAny (model P w) A (Builtin.SmallTypes.ownedTupleIsFree (.ref z)) Q E s := by
  unfold Builtin.SmallTypes.ownedTupleIsFree
  refine wpAny_bind (wpAny_field hz rfl (x := f0) rfl ?_)
  rcases o with rfl | ⟨n, rfl⟩
  · exact wpAny_pure (h true s.heap f1 (Heap.SameBut.refl _ _) hz)
  · show wpAny _ _ (loadIfAlive _ >>= _) _ _ _
    refine wpAny_bind (wp_alive ?_)
    cases s.heap.get? (n : Int).toNat with
    | none => exact wpAny_pure (h true s.heap f1 (Heap.SameBut.refl _ _) hz)
    | some u =>
      show wpAny _ _ (field (.ref z) 1 >>= _) _ _ _
      refine wpAny_bind (wpAny_field hz rfl (x := f1) rfl ?_)
      split
      · exact wpAny_bind (wpAny_setField_rec hz (by simp) fun h1 z1 s1 => wpAny_pure (h false h1 _ s1 z1))
      · exact wpAny_pure (h false s.heap f1 (Heap.SameBut.refl _ _) hz)
end
section
variable {P : Program} {w : World} {A : Around} {E : Value → Shared → Prop} {s : Shared} {z TI TO i1 i2 i3 l1 l2 l3 : Addr}
theorem _root_.PySem.Heap.IsTupleIter.but {h h' : Heap} {a b l : Addr} {k : Nat} (t : h.IsTupleIter a l k) (sb : Heap.SameBut b h h') (ne : a ≠ b) : h'.IsTupleIter a l k := t.at fun o e => (sb.2 _ ne).trans e
theorem _root_.PySem.Heap.IsTuple.but {h h' : Heap} {a b : Addr} {xs : Array Value} (t : h.IsTuple a xs) (sb : Heap.SameBut b h h') (ne : a ≠ b) : h'.IsTuple a xs := by
  obtain ⟨o, e, r⟩ := t
  exact ⟨o, (sb.2 _ ne).trans e, r⟩
theorem z3_item {k : Nat} {xs ys ws : Array Value} {x y v : Value} {Q : Value → Shared → Prop} (D : ZAp z TI TO i1 i2 i3 l1 l2 l3) (S : ZSt s.heap z TI TO i1 i2 i3 l1 l2 l3 k)
    (T1 : s.heap.IsTuple l1 xs) (T2 : s.heap.IsTuple l2 ys) (T3 : s.heap.IsTuple l3 ws) (hx : xs[k]? = some x) (hy : ys[k]? = some y) (hv : ws[k]? = some v)
    (hQ : ∀ h', ZSt h' z TI TO i1 i2 i3 l1 l2 l3 (k + 1) → Tri h' s.heap.objs.size x y v → h'.objs.size = s.heap.objs.size + 1 → (∀ c o, c ∉ [z, TO, i1, i2, i3] → s.heap.get? c = some o → h'.get? c = some o) → Q (.ref s.heap.objs.size) { s with heap := h' }) :
    wpAny (model P w) A (Builtin.«zip.__next__» ⟨[.ref z], []⟩) (fun fin s' => ∃ v, fin = .done (.ret v) ∧ Q v s') E s := by
  obtain ⟨⟨f0, f1, own, hz⟩, hTI, ⟨a, b, c, hTO⟩, h1, h2, h3⟩ := S
  obtain ⟨nd, n1, n2, n3⟩ := D
  simp only [List.nodup_cons, List.mem_cons, List.not_mem_nil, or_false, not_or, List.nodup_nil, and_true, not_false_eq_true] at nd n1 n2 n3
  obtain ⟨⟨zTI, zTO, z1, z2, z3⟩, ⟨TITO, TI1, TI2, TI3⟩, ⟨TO1, TO2, TO3⟩, ⟨i12, i13⟩, i23⟩ := nd
  show wpAny _ _ (field (.ref z) 2 >>= _) _ _ _
  refine wpAny_bind (wpAny_field hz rfl (x := .bool false) rfl ?_)
  show wpAny _ _ (field (.ref z) 3 >>= _) _ _ _
  refine wpAny_bind (wpAny_field hz rfl (x := .ref TI) rfl (wpAny_bind (wpAny_seqItems hTI rfl ?_)))
  show wpAny _ _ (Builtin.SmallTypes.ownedTupleIsFree (.ref z) >>= _) _ _ _
  refine wpAny_bind (own_free own hz fun fr g0 f2 sb0 hz0 => ?_)
  have p1 := Heap.IsTupleIter.but h1 sb0 (Ne.symm z1)
  have p2 := Heap.IsTupleIter.but h2 sb0 (Ne.symm z2)
  have p3 := Heap.IsTupleIter.but h3 sb0 (Ne.symm z3)
  have q1 := Heap.IsTuple.but T1 sb0 n1.1
  have q2 := Heap.IsTuple.but T2 sb0 n2.1
  have q3 := Heap.IsTuple.but T3 sb0 n3.1
  have hTI0 : Tri g0 TI (.ref i1) (.ref i2) (.ref i3) := (sb0.2 _ (Ne.symm zTI)).trans hTI
  have hTO0 : Tri g0 TO a b c := (sb0.2 _ (Ne.symm zTO)).trans hTO
  cases fr with
  | true =>
    simp only [if_true]
    refine wpAny_bind (wpAny_rule (wpAny_bind (wpAny_field hz0 rfl (x := .ref TO) rfl (wpAny_bind (wpAny_setField_rec hz0 (by simp) fun g1 hz1 sb1 => ?_)))))
    replace hz1 : Z3 g1 z TI TO .ellipsis f2 := hz1
    refine wpAny_bind ?_
    simp only [List.zipIdx_cons, List.zipIdx_nil, List.forIn_cons, List.forIn_nil]
    -- the first
    refine wpAny_bind (wpAny_bind (wpAny_onRaise ?_))
    show wpAny _ _ (Builtin.SmallTypes.nextOf (.ref i1) >>= _) _ _ _
    refine wpAny_bind (RZ.nextOf_tuple_item (p1.but sb1 (Ne.symm z1)) (q1.but sb1 n1.1) hx fun g2 o1 sb2 => wpAny_pure ?_)
    have hTO2 : Tri g2 TO a b c := (sb2.2 _ TO1).trans ((sb1.2 _ (Ne.symm zTO)).trans hTO0)
    refine wpAny_bind (wpAny_seqItems hTO2 rfl (wpAny_bind (tri_put hTO2 fun g3 ⟨a1, b1, c1, e1, hTO3⟩ sb3 => wpAny_bind (wpAny_letGo (wpAny_pure ?_)))))
    cases e1
    -- the second
    refine wpAny_bind (wpAny_bind (wpAny_onRaise ?_))
    show wpAny _ _ (Builtin.SmallTypes.nextOf (.ref i2) >>= _) _ _ _
    refine wpAny_bind (RZ.nextOf_tuple_item ((((p2.but sb1 (Ne.symm z2)).but sb2 (Ne.symm i12)).but sb3 (Ne.symm TO2))) (((q2.but sb1 n2.1).but sb2 n2.2.2.2.1).but sb3 n2.2.2.1) hy fun g4 o2 sb4 => wpAny_pure ?_)
    have hTO4 := (sb4.2 _ TO2).trans hTO3
    refine wpAny_bind (wpAny_seqItems hTO4 rfl (wpAny_bind (tri_put hTO4 fun g5 ⟨a2, b2, c2, e2, hTO5⟩ sb5 => wpAny_bind (wpAny_letGo (wpAny_pure ?_)))))
    cases e2
    -- the third
    refine wpAny_bind (wpAny_bind (wpAny_onRaise ?_))
    show wpAny _ _ (Builtin.SmallTypes.nextOf (.ref i3) >>= _) _ _ _
    refine wpAny_bind (RZ.nextOf_tuple_item (((((p3.but sb1 (Ne.symm z3)).but sb2 (Ne.symm i13)).but sb3 (Ne.symm TO3)).but sb4 (Ne.symm i23)).but sb5 (Ne.symm TO3)) (((((q3.but sb1 n3.1).but sb2 n3.2.2.2.1).but sb3 n3.2.2.1).but sb4 n3.2.2.2.2.1).but sb5 n3.2.2.1) hv fun g6 o3 sb6 => wpAny_pure ?_)
    have hTO6 := (sb6.2 _ TO3).trans hTO5
    refine wpAny_bind (wpAny_seqItems hTO6 rfl (wpAny_bind (tri_put hTO6 fun g7 ⟨a3, b3, c3, e3, hTO7⟩ sb7 => wpAny_bind (wpAny_letGo (wpAny_pure (wpAny_pure ?_))))))
    cases e3
    refine wpAny_bind (wpAny_seqItems hTO7 rfl (wpAny_bind (wpAny_newTuple ?_)))
    have hsz : g7.objs.size = s.heap.objs.size := by rw [sb7.1, sb6.1, sb5.1, sb4.1, sb3.1, sb2.1, sb1.1, sb0.1]
    have all7 : ∀ d o, d ∉ [z, TO, i1, i2, i3] → s.heap.get? d = some o → g7.get? d = some o := fun d o hd e => by
      simp only [List.mem_cons, List.not_mem_nil, or_false, not_or] at hd
      rw [sb7.2 _ hd.2.1, sb6.2 _ hd.2.2.2.2, sb5.2 _ hd.2.1, sb4.2 _ hd.2.2.2.1, sb3.2 _ hd.2.1, sb2.2 _ hd.2.2.1, sb1.2 _ hd.1, sb0.2 _ hd.1]
      exact e
    have hz7 : Z3 g7 z TI TO .ellipsis f2 := by
      show g7.get? z = _
      rw [sb7.2 _ zTO, sb6.2 _ z3, sb5.2 _ zTO, sb4.2 _ z2, sb3.2 _ zTO, sb2.2 _ z1]
      exact hz1
    have hTI7 := all7 TI _ (by simp only [List.mem_cons, List.not_mem_nil, or_false, not_or]; exact ⟨Ne.symm zTI, TITO, TI1, TI2, TI3⟩) hTI
    have t1 : g7.IsTupleIter i1 l1 (k + 1) := ((((o1.but sb3 (Ne.symm TO1)).but sb4 i12).but sb5 (Ne.symm TO1)).but sb6 i13).but sb7 (Ne.symm TO1)
    have t2 : g7.IsTupleIter i2 l2 (k + 1) := ((o2.but sb5 (Ne.symm TO2)).but sb6 i23).but sb7 (Ne.symm TO2)
    have t3 : g7.IsTupleIter i3 l3 (k + 1) := o3.but sb7 (Ne.symm TO3)
    have zlt : z < g7.objs.size := Heap.lt_size hz7
    have hz8 : Z3 (g7.push { cls := .type "tuple", data := .seq #[x, y, v] }) z TI TO .ellipsis f2 := Heap.get?_push_of_some _ hz7
    show wpAny _ _ (Builtin.SmallTypes.ownedTupleHandOut (.ref z) (.ref g7.objs.size) >>= _) _ _ _
    refine wpAny_bind ?_
    unfold Builtin.SmallTypes.ownedTupleHandOut
    refine wpAny_bind (wpAny_setField_rec hz8 (by simp) fun g9 hz9 sb9 => wpAny_setField_rec hz9 (by simp) fun gz hzz sbz => wpAny_pure ⟨_, rfl, ?_⟩)
    have up : ∀ d o, d ≠ z → g7.get? d = some o → gz.get? d = some o := fun d o hd e => by
      rw [sbz.2 _ hd, sb9.2 _ hd]
      exact Heap.get?_push_of_some _ e
    have new : Tri gz g7.objs.size x y v := by
      show gz.get? _ = _
      rw [sbz.2 _ (Nat.ne_of_gt zlt), sb9.2 _ (Nat.ne_of_gt zlt)]
      exact Heap.get?_push_size _ rfl
    have size : gz.objs.size = g7.objs.size + 1 := by rw [sbz.1, sb9.1, Heap.size_push]
    show Q (.ref g7.objs.size) _
    rw [hsz] at new size ⊢
    refine hQ gz ⟨⟨_, _, .inr ⟨_, rfl⟩, hzz⟩, up _ _ (Ne.symm zTI) hTI7, ⟨_, _, _, up _ _ (Ne.symm zTO) hTO7⟩, t1.at fun o e => up _ o (Ne.symm z1) e, t2.at fun o e => up _ o (Ne.symm z2) e, t3.at fun o e => up _ o (Ne.symm z3) e⟩ new size fun d o hd e => up _ o (fun q => hd (by simp [q])) (all7 d o hd e)
  | false =>
    simp only [Bool.false_eq_true, if_false]
    refine wpAny_bind ?_
    rw [← Array.forIn_toList]
    simp only [List.forIn_cons, List.forIn_nil]
    refine wpAny_bind (wpAny_bind (wpAny_holding ?_))
    show wpAny _ _ (Builtin.SmallTypes.nextOf (.ref i1) >>= _) _ _ _
    refine wpAny_bind (RZ.nextOf_tuple_item p1 q1 hx fun g2 o1 sb2 => wpAny_pure (wpAny_pure ?_))
    refine wpAny_bind (wpAny_bind (wpAny_holding ?_))
    show wpAny _ _ (Builtin.SmallTypes.nextOf (.ref i2) >>= _) _ _ _
    refine wpAny_bind (RZ.nextOf_tuple_item (p2.but sb2 (Ne.symm i12)) (q2.but sb2 n2.2.2.2.1) hy fun g4 o2 sb4 => wpAny_pure (wpAny_pure ?_))
    refine wpAny_bind (wpAny_bind (wpAny_holding ?_))
    show wpAny _ _ (Builtin.SmallTypes.nextOf (.ref i3) >>= _) _ _ _
    refine wpAny_bind (RZ.nextOf_tuple_item ((p3.but sb2 (Ne.symm i13)).but sb4 (Ne.symm i23)) ((q3.but sb2 n3.2.2.2.1).but sb4 n3.2.2.2.2.1) hv fun g6 o3 sb6 => wpAny_pure (wpAny_pure (wpAny_pure ?_)))
    have hsz : g6.objs.size = s.heap.objs.size := by rw [sb6.1, sb4.1, sb2.1, sb0.1]
    refine wpAny_bind (wpAny_newTuple (hsz := by show 3 ≤ sizeLine; decide) (wpAny_pure ⟨_, rfl, ?_⟩))
    have all6 : ∀ d o, d ∉ [z, TO, i1, i2, i3] → s.heap.get? d = some o → g6.get? d = some o := fun d o hd e => by
      simp only [List.mem_cons, List.not_mem_nil, or_false, not_or] at hd
      rw [sb6.2 _ hd.2.2.2.2, sb4.2 _ hd.2.2.2.1, sb2.2 _ hd.2.2.1, sb0.2 _ hd.1]
      exact e
    have hz6 : Z3 g6 z TI TO f0 f2 := by
      show g6.get? z = _
      rw [sb6.2 _ z3, sb4.2 _ z2, sb2.2 _ z1]
      exact hz0
    have hTO6 : Tri g6 TO a b c := by
      show g6.get? TO = _
      rw [sb6.2 _ TO3, sb4.2 _ TO2, sb2.2 _ TO1]
      exact hTO0
    have hTI6 := all6 TI _ (by simp only [List.mem_cons, List.not_mem_nil, or_false, not_or]; exact ⟨Ne.symm zTI, TITO, TI1, TI2, TI3⟩) hTI
    have t1 : g6.IsTupleIter i1 l1 (k + 1) := (o1.but sb4 i12).but sb6 i13
    have t2 : g6.IsTupleIter i2 l2 (k + 1) := o2.but sb6 i23
    have up : ∀ d o, g6.get? d = some o → (g6.push { cls := .type "tuple", data := .seq #[x, y, v] }).get? d = some o := fun d o e => Heap.get?_push_of_some _ e
    show Q (.ref g6.objs.size) _
    have new : Tri (g6.push { cls := .type "tuple", data := .seq #[x, y, v] }) g6.objs.size x y v := Heap.get?_push_size _ rfl
    rw [hsz] at new ⊢
    exact hQ _ ⟨⟨_, _, own, up _ _ hz6⟩, up _ _ hTI6, ⟨_, _, _, up _ _ hTO6⟩, t1.at fun o e => up _ o e, t2.at fun o e => up _ o e, o3.at fun o e => up _ o e⟩ new (by rw [Heap.size_push, hsz]) fun d o hd e => up _ o (all6 d o hd e)
/-- the first one has ended -/
theorem z3_end {k : Nat} {xs : Array Value} {Q : Fin → Shared → Prop} (hh : A.handled = none) (D : ZAp z TI TO i1 i2 i3 l1 l2 l3) (S : ZSt s.heap z TI TO i1 i2 i3 l1 l2 l3 k) (T1 : s.heap.IsTuple l1 xs) (hx : xs[k]? = none)
    (hE : ∀ h' e, (∀ c o, c ∉ [z, TO, i1, i2, i3] → s.heap.get? c = some o → h'.get? c = some o) → (∃ o, h'.get? e = some o ∧ o.cls = .type "StopIteration") → E (.ref e) { s with heap := h' }) :
    wpAny (model P w) A (Builtin.«zip.__next__» ⟨[.ref z], []⟩) Q E s := by
  obtain ⟨⟨f0, f1, own, hz⟩, hTI, ⟨a, b, c, hTO⟩, h1, h2, h3⟩ := S
  obtain ⟨nd, n1, n2, n3⟩ := D
  simp only [List.nodup_cons, List.mem_cons, List.not_mem_nil, or_false, not_or, List.nodup_nil, and_true, not_false_eq_true] at nd n1 n2 n3
  obtain ⟨⟨zTI, zTO, z1, z2, z3⟩, ⟨TITO, TI1, TI2, TI3⟩, ⟨TO1, TO2, TO3⟩, ⟨i12, i13⟩, i23⟩ := nd
  show wpAny _ _ (field (.ref z) 2 >>= _) _ _ _
  refine wpAny_bind (wpAny_field hz rfl (x := .bool false) rfl ?_)
  show wpAny _ _ (field (.ref z) 3 >>= _) _ _ _
  refine wpAny_bind (wpAny_field hz rfl (x := .ref TI) rfl (wpAny_bind (wpAny_seqItems hTI rfl ?_)))
  show wpAny _ _ (Builtin.SmallTypes.ownedTupleIsFree (.ref z) >>= _) _ _ _
  refine wpAny_bind (own_free own hz fun fr g0 f2 sb0 hz0 => ?_)
  have p1 := Heap.IsTupleIter.but h1 sb0 (Ne.symm z1)
  have q1 := Heap.IsTuple.but T1 sb0 n1.1
  cases fr with
  | true =>
    simp only [if_true]
    refine wpAny_bind (wpAny_rule (wpAny_bind (wpAny_field hz0 rfl (x := .ref TO) rfl (wpAny_bind (wpAny_setField_rec hz0 (by simp) fun g1 hz1 sb1 => ?_)))))
    replace hz1 : Z3 g1 z TI TO .ellipsis f2 := hz1
    refine wpAny_bind ?_
    simp only [List.zipIdx_cons, List.zipIdx_nil, List.forIn_cons, List.forIn_nil]
    refine wpAny_bind (wpAny_bind (wpAny_onRaise ?_))
    show wpAny _ _ (Builtin.SmallTypes.nextOf (.ref i1) >>= _) _ _ _
    refine wpAny_bind (RZ.nextOf_tuple_end hh (p1.but sb1 (Ne.symm z1)) (q1.but sb1 n1.1) hx fun g2 e sb2 ⟨oe, hoe, hce⟩ => ?_)
    have hz2 : Z3 g2 z TI TO .ellipsis f2 := sb2 _ _ z1 hz1
    have ez : e ≠ z := fun q => by
      subst q
      rw [hz2] at hoe
      cases hoe
      simp at hce
    refine wpAny_setField_rec hz2 (by simp) fun g3 _ sb3 => hE g3 e (fun d o hd q => ?_) ⟨oe, (sb3.2 _ ez).trans hoe, hce⟩
    simp only [List.mem_cons, List.not_mem_nil, or_false, not_or] at hd
    rw [sb3.2 _ hd.1]
    refine sb2 _ _ hd.2.2.1 ?_
    rw [sb1.2 _ hd.1, sb0.2 _ hd.1]
    exact q
  | false =>
    simp only [Bool.false_eq_true, if_false]
    refine wpAny_bind ?_
    rw [← Array.forIn_toList]
    simp only [List.forIn_cons, List.forIn_nil]
    refine wpAny_bind (wpAny_bind (wpAny_holding ?_))
    show wpAny _ _ (Builtin.SmallTypes.nextOf (.ref i1) >>= _) _ _ _
    refine wpAny_bind (RZ.nextOf_tuple_end hh p1 q1 hx fun g2 e sb2 he => hE g2 e (fun d o hd q => ?_) he)
    simp only [List.mem_cons, List.not_mem_nil, or_false, not_or] at hd
    refine sb2 _ _ hd.2.2.1 ?_
    rw [sb0.2 _ hd.1]
    exact q

end
end Yt

set_option Elab.async false
set_option linter.all false
set_option maxRecDepth 100000
set_option maxHeartbeats 2000000
namespace Yt
open PySem PySem.Spec PyProof.Rows L2
section
variable {P : Program} {w : World} {A : Around} {E : Value → Shared → Prop} {s : Shared} {z TI TO i1 i2 i3 l1 l2 l3 : Addr}
theorem next3_item {k : Nat} {xs ys ws : Array Value} {x y v : Value} {Q : Option Value → Shared → Prop} (D : ZAp z TI TO i1 i2 i3 l1 l2 l3) (S : ZSt s.heap z TI TO i1 i2 i3 l1 l2 l3 k)
    (T1 : s.heap.IsTuple l1 xs) (T2 : s.heap.IsTuple l2 ys) (T3 : s.heap.IsTuple l3 ws) (hx : xs[k]? = some x) (hy : ys[k]? = some y) (hv : ws[k]? = some v)
    (hQ : ∀ h', ZSt h' z TI TO i1 i2 i3 l1 l2 l3 (k + 1) → Tri h' s.heap.objs.size x y v → h'.objs.size = s.heap.objs.size + 1 → (∀ c o, c ∉ [z, TO, i1, i2, i3] → s.heap.get? c = some o → h'.get? c = some o) → Q (some (.ref s.heap.objs.size)) { s with heap := h' }) :
    wpAny (model P w) A (pyNext (.ref z)) Q E s := by
  have hT : s.TypeIs (.ref z) "zip" := S.zz.elim fun f0 q => q.elim fun f1 q => ⟨_, q.2, rfl⟩
  unfold pyNext
  exact wpAny_bind (wpAny_attempt (wpAny_callSpecial?_slot (name := Str.ofString "__next__") hT F.slot_zip_next
    (wpAny_call_entry F.slot_zip_next hT F.entry_zip_next (z3_item D S T1 T2 T3 hx hy hv fun h' a1 a2 a3 a4 => wpAny_pure (hQ h' a1 a2 a3 a4)) (F.args_zip_next_1 _))))
theorem next3_end {k : Nat} {xs : Array Value} {Q : Option Value → Shared → Prop} (hh : A.handled = none) (D : ZAp z TI TO i1 i2 i3 l1 l2 l3) (S : ZSt s.heap z TI TO i1 i2 i3 l1 l2 l3 k) (T1 : s.heap.IsTuple l1 xs) (hx : xs[k]? = none)
    (hQ : ∀ h', (∀ c o, c ∉ [z, TO, i1, i2, i3] → s.heap.get? c = some o → h'.get? c = some o) → Q none { s with heap := h' }) : wpAny (model P w) A (pyNext (.ref z)) Q E s := by
  have hT : s.TypeIs (.ref z) "zip" := S.zz.elim fun f0 q => q.elim fun f1 q => ⟨_, q.2, rfl⟩
  unfold pyNext
  refine wpAny_bind (wpAny_attempt (wpAny_callSpecial?_slot (name := Str.ofString "__next__") hT F.slot_zip_next
    (wpAny_call_entry F.slot_zip_next hT F.entry_zip_next (z3_end hh D S T1 hx fun h' e hk ⟨o, ho, hc⟩ => ?_) (F.args_zip_next_1 _))))
  exact wpAny_bind (wpAny_isInstance (T := "StopIteration") (b := true) ⟨o, ho, hc⟩ isSubtype_stop (wpAny_pure (hQ _ hk)))
theorem iter3 {k : Nat} {Q : Value → Shared → Prop} (S : ZSt s.heap z TI TO i1 i2 i3 l1 l2 l3 k) (h : Q (.ref z) s) : wpAny (model P w) A (pyIter (.ref z)) Q E s := by
  have hT : s.TypeIs (.ref z) "zip" := S.zz.elim fun f0 q => q.elim fun f1 q => ⟨_, q.2, rfl⟩
  refine wpAny_pyIter_slot hT F.slot_zip_iter (wpAny_call_entry F.slot_zip_iter hT F.entry_zip_iter ?_ (F.args_zip_iter_1 _))
  show wpAny _ _ (ret (.ref z)) _ _ s
  exact wpAny_pure ⟨_, rfl, "zip", _, hT, F.slot_zip_next.lookup, h⟩
end
theorem typeCall_zip3 (a b c : Value) : checkTypeCall "zip" ⟨[a, b, c], []⟩ = pure () := by kernel_rfl
theorem newCall_zip3 (a b c : Value) : checkBuiltinCall "zip.__new__" ⟨[.type "zip", a, b, c], []⟩ = pure () := by kernel_rfl
theorem args_init4 (a b c d : Value) : argsOk "object.__init__" ⟨[a, b, c, d], []⟩ := by
  unfold argsOk; rw [signature?_of (id := "object.__init__") (n := ['_', '_', 't', 'i', 'n', 'i', '_', '_']) (o := ['t', 'c', 'e', 'j', 'b', 'o']) (by kernel_rfl) F.owner_object]; kernel_rfl
abbrev titer (h : Heap) (l : Addr) : Heap := h.push { cls := .type "tuple_iterator", data := .fields #[.ref l, .int 0 0] }
abbrev zh3 (h : Heap) (l1 l2 l3 : Addr) : Heap := titer (titer (titer h l1) l2) l3
abbrev zh4 (h : Heap) (l1 l2 l3 : Addr) : Heap := (zh3 h l1 l2 l3).push { cls := .type "tuple", data := .seq #[.ref h.objs.size, .ref (titer h l1).objs.size, .ref (titer (titer h l1) l2).objs.size] }
abbrev zh5 (h : Heap) (l1 l2 l3 : Addr) : Heap := (zh4 h l1 l2 l3).push { cls := .type "tuple", data := .seq #[.none, .none, .none] }
abbrev zh6 (h : Heap) (l1 l2 l3 : Addr) : Heap := (zh5 h l1 l2 l3).push { cls := .type "zip", data := .fields #[.none, .bool false, .bool false, .ref (zh3 h l1 l2 l3).objs.size, .ref (zh4 h l1 l2 l3).objs.size] }
theorem meets_zip3 (l1 l2 l3 : Addr) (xs ys ws : Array Value) :
    Meets (Builtin.«zip.__new__» ⟨[.type "zip", .ref l1, .ref l2, .ref l3], []⟩) (fun _ R s => s.heap.IsTuple l1 xs ∧ s.heap.IsTuple l2 ys ∧ s.heap.IsTuple l3 ws ∧ R (.ok (.ret (.ref (zh5 s.heap l1 l2 l3).objs.size))) { s with heap := zh6 s.heap l1 l2 l3 }) :=
  .of_wp fun prog w A R s h => by
    obtain ⟨hp, g, d, tk, os⟩ := s; obtain ⟨hl1, hl2, hl3, h⟩ := h
    have hsub := sub_zip
    have hL1 : Heap.IsTuple (Shared.heap ⟨hp, g, d, tk, os⟩) l1 xs := hl1
    have hL2 : Heap.IsTuple (Shared.heap ⟨titer hp l1, g, d, tk, os⟩) l2 ys := Heap.IsTuple.push hl2 _
    have hL3 : Heap.IsTuple (Shared.heap ⟨titer (titer hp l1) l2, g, d, tk, os⟩) l3 ws := Heap.IsTuple.push (Heap.IsTuple.push hl3 _) _
    wp_walk using wpAny_pyIter_tuple hL1, wpAny_pyIter_tuple hL2, wpAny_pyIter_tuple hL3
    exact ⟨_, rfl, h⟩
section
variable {P : Program} {w : World} {A : Around} {E : Value → Shared → Prop} {s : Shared}
theorem call_zip3 {l1 l2 l3 : Addr} {xs ys ws : Array Value} {Q : Value → Shared → Prop} (T1 : s.heap.IsTuple l1 xs) (T2 : s.heap.IsTuple l2 ys) (T3 : s.heap.IsTuple l3 ws)
    (h : ∀ h', ZSt h' (s.heap.objs.size + 5) (s.heap.objs.size + 3) (s.heap.objs.size + 4) s.heap.objs.size (s.heap.objs.size + 1) (s.heap.objs.size + 2) l1 l2 l3 0 → (∀ c o, s.heap.get? c = some o → h'.get? c = some o) → Q (.ref (s.heap.objs.size + 5)) { s with heap := h' }) :
    wpAny (model P w) A (call (.type "zip") [.ref l1, .ref l2, .ref l3]) Q E s := by
  refine callType_new F.called_zip (by decide) (typeCall_zip3 _ _ _) (newCall_zip3 _ _ _) (fun obj => args_init4 obj _ _ _) F.entry_zip_new (meets_zip3 l1 l2 l3 xs ys ws) ⟨T1, T2, T3, ?_⟩
  have y1 : (titer s.heap l1).objs.size = s.heap.objs.size + 1 := Heap.size_push ..
  have y2 : (titer (titer s.heap l1) l2).objs.size = s.heap.objs.size + 2 := by rw [Heap.size_push, y1]
  have y3 : (zh3 s.heap l1 l2 l3).objs.size = s.heap.objs.size + 3 := by rw [Heap.size_push, y2]
  have y4 : (zh4 s.heap l1 l2 l3).objs.size = s.heap.objs.size + 4 := by rw [Heap.size_push, y3]
  have y5 : (zh5 s.heap l1 l2 l3).objs.size = s.heap.objs.size + 5 := by rw [Heap.size_push, y4]
  have up5 : ∀ {c o}, (zh5 s.heap l1 l2 l3).get? c = some o → (zh6 s.heap l1 l2 l3).get? c = some o := fun e => Heap.get?_push_of_some _ e
  have up4 : ∀ {c o}, (zh4 s.heap l1 l2 l3).get? c = some o → (zh6 s.heap l1 l2 l3).get? c = some o := fun e => up5 (Heap.get?_push_of_some _ e)
  have up3 : ∀ {c o}, (zh3 s.heap l1 l2 l3).get? c = some o → (zh6 s.heap l1 l2 l3).get? c = some o := fun e => up4 (Heap.get?_push_of_some _ e)
  have up2 : ∀ {c o}, (titer (titer s.heap l1) l2).get? c = some o → (zh6 s.heap l1 l2 l3).get? c = some o := fun e => up3 (Heap.get?_push_of_some _ e)
  have up1 : ∀ {c o}, (titer s.heap l1).get? c = some o → (zh6 s.heap l1 l2 l3).get? c = some o := fun e => up2 (Heap.get?_push_of_some _ e)
  have g1 : (zh6 s.heap l1 l2 l3).get? s.heap.objs.size = some _ := up1 (Heap.get?_push_size _ rfl)
  have g2 : (zh6 s.heap l1 l2 l3).get? (titer s.heap l1).objs.size = some _ := up2 (Heap.get?_push_size _ rfl)
  have g3 : (zh6 s.heap l1 l2 l3).get? (titer (titer s.heap l1) l2).objs.size = some _ := up3 (Heap.get?_push_size _ rfl)
  have g4 : (zh6 s.heap l1 l2 l3).get? (zh3 s.heap l1 l2 l3).objs.size = some _ := up4 (Heap.get?_push_size _ rfl)
  have g5 : (zh6 s.heap l1 l2 l3).get? (zh4 s.heap l1 l2 l3).objs.size = some _ := up5 (Heap.get?_push_size _ rfl)
  have g6 : (zh6 s.heap l1 l2 l3).get? (zh5 s.heap l1 l2 l3).objs.size = some _ := Heap.get?_push_size _ rfl
  show _ ∧ _
  rw [y1] at g2
  rw [y2] at g3
  rw [y1, y2, y3] at g4
  rw [y4] at g5
  rw [y3, y4, y5] at g6
  rw [y5]
  exact ⟨⟨_, g6, rfl⟩, h _ ⟨⟨_, _, .inl rfl, g6⟩, g4, ⟨_, _, _, g5⟩, ⟨_, g1, rfl, rfl⟩, ⟨_, g2, rfl, rfl⟩, ⟨_, g3, rfl, rfl⟩⟩ fun c o x => up1 (Heap.get?_push_of_some _ x)⟩
end
theorem zap (n l1 l2 l3 : Nat) (h1 : l1 < n) (h2 : l2 < n) (h3 : l3 < n) : ZAp (n + 5) (n + 3) (n + 4) n (n + 1) (n + 2) l1 l2 l3 := by
  have out : ∀ l : Nat, l < n → l ∉ ([n + 5, n + 3, n + 4, n, n + 1, n + 2] : List Nat) := fun l hl q => by
    simp only [List.mem_cons, List.not_mem_nil, or_false] at q
    omega
  exact ⟨(show ([n + 5, n + 3, n + 4, n, n + 1, n + 2] : List Nat).Nodup by simp), out l1 h1, out l2 h2, out l3 h3⟩
theorem zge (n d : Nat) (h : d ∈ ([n + 5, n + 3, n + 4, n, n + 1, n + 2] : List Nat)) : n ≤ d := by
  simp only [List.mem_cons, List.not_mem_nil, or_false] at h
  omega
/-- the tuples at a, b, c as they stand at each turn, the items in new rows of three -/
def Itz3 (K : PySem.W.Frag) (a b c : Addr) : It :=
  ⟨fun i H => ∃ (xs ys ws : List V) (x y v : V), SqT K H a xs ∧ SqT K H b ys ∧ SqT K H c ws ∧ xs[i]? = some x ∧ ys[i]? = some y ∧ ws[i]? = some v,
    fun i H u H' => ∃ T x y v, u = .ref T ∧ H T = none ∧ H' = upd H T (.tup [x, y, v]) ∧ (∀ xs, SqT K H a xs → xs[i]? = some x) ∧ (∀ ys, SqT K H b ys → ys[i]? = some y) ∧ ∀ ws, SqT K H c ws → ws[i]? = some v,
    fun i H => ∃ xs : List V, SqT K H a xs ∧ xs.length ≤ i⟩
theorem turn_zip3 {P : Program} {w : World} {K : PySem.W.Frag} {x : Str} {p : Pos} {a b c z TI TO i1 i2 i3 : Addr} (D : ZAp z TI TO i1 i2 i3 a b c) : Turn P w K (.Name x p) (Itz3 K a b c) [z, TI, TO, i1, i2, i3] z (fun i h => ZSt h z TI TO i1 i2 i3 a b c i) where
  mem := by simp
  obj := fun i h st d hd => by
    obtain ⟨⟨f0, f1, _, hz⟩, hTI, ⟨_, _, _, hTO⟩, ⟨o1, e1, _, d1⟩, ⟨o2, e2, _, d2⟩, ⟨o3, e3, _, d3⟩⟩ := st
    simp only [List.mem_cons, List.not_mem_nil, or_false] at hd
    rcases hd with q | q | q | q | q | q
    · rw [q]; exact ⟨_, hz, fun v q => nomatch q⟩
    · rw [q]; exact ⟨_, hTI, fun v q => nomatch q⟩
    · rw [q]; exact ⟨_, hTO, fun v q => nomatch q⟩
    · rw [q]; exact ⟨o1, e1, fun v q => by rw [d1] at q; cases q⟩
    · rw [q]; exact ⟨o2, e2, fun v q => by rw [d2] at q; cases q⟩
    · rw [q]; exact ⟨o3, e3, fun v q => by rw [d3] at q; cases q⟩
  keep := fun i h h' st k => by
    obtain ⟨⟨f0, f1, own, hz⟩, hTI, ⟨_, _, _, hTO⟩, h1, h2, h3⟩ := st
    exact ⟨⟨f0, f1, own, k z (by simp) _ hz⟩, k TI (by simp) _ hTI, ⟨_, _, _, k TO (by simp) _ hTO⟩, h1.at fun o q => k i1 (by simp) o q, h2.at fun o q => k i2 (by simp) o q, h3.at fun o q => k i3 (by simp) o q⟩
  item := by
    rintro X rfl rfl rfl hc i pins s σ H E I hf st ⟨xs, ys, ws, x, y, v, hqx, hqy, hqv, hx, hy, hv⟩
    obtain ⟨it1, rv1, p1, _⟩ := I.tuple hqx
    obtain ⟨it2, rv2, p2, _⟩ := I.tuple hqy
    obtain ⟨it3, rv3, p3, _⟩ := I.tuple hqv
    obtain ⟨u1, hu1, ru1⟩ := rv1.get hx
    obtain ⟨u2, hu2, ru2⟩ := rv2.get hy
    obtain ⟨u3, hu3, ru3⟩ := rv3.get hv
    have live : ∀ d ∈ [z, TI, TO, i1, i2, i3], d < s.heap.objs.size := fun d hd => by
      obtain ⟨⟨f0, f1, _, hz⟩, hTI, ⟨_, _, _, hTO⟩, ⟨o1, e1, _⟩, ⟨o2, e2, _⟩, ⟨o3, e3, _⟩⟩ := st
      simp only [List.mem_cons, List.not_mem_nil, or_false] at hd
      rcases hd with q | q | q | q | q | q
      · rw [q]; exact Heap.lt_size hz
      · rw [q]; exact Heap.lt_size hTI
      · rw [q]; exact Heap.lt_size hTO
      · rw [q]; exact Heap.lt_size e1
      · rw [q]; exact Heap.lt_size e2
      · rw [q]; exact Heap.lt_size e3
    refine next3_item D st p1 p2 p3 (x := u1) (y := u2) (v := u3) (by simpa using hu1) (by simpa using hu2) (by simpa using hu3) fun h' st' hT hsz hk => ?_
    have new : ObjOk X.prog X.w (upd H s.heap.objs.size (.tup [x, y, v])) h' s.heap.objs.size (.tup [x, y, v]) :=
      ⟨by show 3 ≤ sizeLine; decide, [u1, u2, u3], .cons ru1 (.cons ru2 (.cons ru3 .nil)), ⟨_, hT, rfl, _, rfl⟩⟩
    have I1 : Inv X pins σ (upd H s.heap.objs.size (.tup [x, y, v])) { s with heap := h' } :=
      I.turnedNew (t' := s.toks) (ch := [z, TI, TO, i1, i2, i3]) (fun d o hb q => hk d o (fun m => hb (by simp only [List.mem_cons, List.not_mem_nil, or_false] at m ⊢; rcases m with m | m | m | m | m <;> simp [m])) q) hf (Nat.le_refl _) new
    refine ⟨_, rfl, wpAny_pure ⟨.ref s.heap.objs.size, _, I1, rfl, ⟨_, x, y, v, rfl, I.hok.fresh (Nat.le_refl _), rfl, fun l hl => by rw [I.tuple_inj hl hqx]; exact hx, fun l hl => by rw [I.tuple_inj hl hqy]; exact hy, fun l hl => by rw [I.tuple_inj hl hqv]; exact hv⟩, st', fun d hd => ?_⟩⟩
    rw [upd_ne (Nat.ne_of_lt (live d hd))]
    exact (hf d hd).1
  done := by
    rintro X rfl rfl rfl hc i pins s σ H E I hf st ⟨xs, hqx, hend⟩
    obtain ⟨it1, rv1, p1, _⟩ := I.tuple hqx
    have e1 := rv1.length
    exact next3_end (I.ok.hd hc) D st p1 (by simp; omega) fun h' hk => ⟨rfl, I.turnedL (t' := s.toks) (ch := [z, TI, TO, i1, i2, i3]) (fun d o hb q => hk d o (fun m => hb (by simp only [List.mem_cons, List.not_mem_nil, or_false] at m ⊢; rcases m with m | m | m | m | m <;> simp [m])) q) hf⟩
  self := fun A i s Q E st h => iter3 st h
def iZip3 (K : PySem.W.Frag) (ta : TA) : TI := fun σ H R => ta σ H fun vs H1 => ∃ a b c xs ys ws, vs = [.ref a, .ref b, .ref c] ∧ SqT K H1 a xs ∧ SqT K H1 b ys ∧ SqT K H1 c ws ∧ R (Itz3 K a b c) H1
theorem pi_zip3 {X : Cx} {e e2 e3 : Expr} {ta : TA} {p pos tpos : Pos} {x : Str} (hg : Gl X "zip") (hm : X.mg "zip" = none) (ha : PA X [e, e2, e3] ta)
    (hs : starEach [e, e2, e3] X.env = (false, eval e X.env) :: starEach [e2, e3] X.env := by rfl) (hpl : (backTo pos (starEach [e2, e3] X.env)).any (·.1) = false := by rfl) :
    PI X (.Name x tpos) (.Call (.Name "zip" p) [e, e2, e3] [] pos) (iZip3 X.K ta) := by
  refine ⟨fun pins s σ H R I h => ?_⟩
  refine Call_ (ld_blt I hg hm PyProof.Rows.boot_zip (PyProof.Rows.callWith_type1 (thn (ha.run pos pins s σ H _ I h) fun us s1 ⟨vs, H1, I1, r1, a, b, c, xs, ys, ws, ex, h1, h2, h3, q⟩ => ?_) hs hpl))
  subst ex
  obtain ⟨rfl⟩ : us = [.ref a, .ref b, .ref c] := by
    cases r1 with
    | cons r rr =>
      cases rr with
      | cons r' rr =>
        cases rr with
        | cons r'' rr =>
          cases rr
          cases r
          cases r'
          cases r''
          rfl
  obtain ⟨it1, rv1, p1, _⟩ := I1.tuple h1
  obtain ⟨it2, rv2, p2, _⟩ := I1.tuple h2
  obtain ⟨it3, rv3, p3, _⟩ := I1.tuple h3
  have lt : ∀ {d : Addr} {its : Array Value}, s1.heap.IsTuple d its → d < s1.heap.objs.size := fun t => t.elim fun o e => Heap.lt_size e.1
  refine call_zip3 p1 p2 p3 fun h' st hk => iter3 st ?_
  have I2 : Inv X pins σ H1 { s1 with heap := h' } := I1.kept (t' := s1.toks) hk
  refine ⟨s1.heap.objs.size + 5, [s1.heap.objs.size + 5, s1.heap.objs.size + 3, s1.heap.objs.size + 4, s1.heap.objs.size, s1.heap.objs.size + 1, s1.heap.objs.size + 2], _, _, H1, rfl, I2, turn_zip3 (zap s1.heap.objs.size a b c (lt p1) (lt p2) (lt p3)), st, fun d hd => ?_, q⟩
  have hle : s1.heap.objs.size ≤ d := zge _ _ hd
  exact I1.fpOk hle (I1.hok.fresh hle)
theorem walk_zip3 {K : PySem.W.Frag} {a b c : Addr} {xs ys ws : List V} {n : Nat} (h1 : xs.length = n) (h2 : ys.length = n) (h3 : ws.length = n) : Walk (Itz3 K a b c) n (fun H => SqT K H a xs ∧ SqT K H b ys ∧ SqT K H c ws)
    (fun i H u H' => ∃ T x y v, u = .ref T ∧ H T = none ∧ H' = upd H T (.tup [x, y, v]) ∧ xs[i]? = some x ∧ ys[i]? = some y ∧ ws[i]? = some v) := by
  subst h1
  refine ⟨fun i H hi q => ⟨xs, ys, ws, xs[i], ys[i]'(by omega), ws[i]'(by omega), q.1, q.2.1, q.2.2, by simp [hi], by simp, by simp⟩, fun H q => ⟨xs, q.1, Nat.le_refl _⟩, fun i H u H' hi q y => ?_⟩
  obtain ⟨T, x, y, v, e1, e2, e3, f1, f2, f3⟩ := y
  exact ⟨T, x, y, v, e1, e2, e3, f1 xs q.1, f2 ys q.2.1, f3 ws q.2.2⟩
end Yt

set_option Elab.async false
set_option linter.all false
set_option maxRecDepth 100000
set_option maxHeartbeats 2000000
namespace Yt
open PySem PySem.Spec PyProof.Rows L2
/-! ### sets of whatever is scanned, with what a walk over them needs -/
section
variable {P : Program} {w : World} {K : Type} [DecidableEq K] {knd : KeyKind P w K}
/-- the set at a, its table told, to be walked -/
structure Tab (knd : KeyKind P w K) (h : Heap) (a : Addr) (es : Array (Int × Value)) : Prop where
  ex : ∃ o ep t, h.get? a = some o ∧ o.ExactSet ∧ o.data = .set es ep t ∧ t.fits es.size = true ∧ Ris t.place.toList ∧ (w.params.followText "set-order" = true ∨ t.led = true)
  el : ElemsOf knd es.toList
  few : es.size < scanBound
theorem Tab.at {h h' : Heap} {a : Addr} {es : Array (Int × Value)} (T : Tab knd h a es) (k : ∀ o, h.get? a = some o → h'.get? a = some o) : Tab knd h' a es := by
  obtain ⟨o, ep, t, ho, r⟩ := T.ex
  exact ⟨⟨o, ep, t, k o ho, r⟩, T.el, T.few⟩
theorem Tab.there {h : Heap} {a : Addr} {es : Array (Int × Value)} (T : Tab knd h a es) : ∃ o, h.get? a = some o := by
  obtain ⟨o, ep, t, ho, r⟩ := T.ex
  exact ⟨o, ho⟩
variable {A : Around} {E : Value → Shared → Prop} {s : Shared} {a : Addr}
theorem tab_put {h : Heap} {o : Obj} {es es' : Array (Int × Value)} {ep : Nat} {t t' : SetTable} (ho : h.get? a = some o) (hx : o.ExactSet) (hd : o.data = .set es ep t) (el : ElemsOf knd es'.toList) (few : es'.size < scanBound)
    (f : t'.fits es'.size = true) (r : Ris t'.place.toList) (l : w.params.followText "set-order" = true ∨ t'.led = true) : ∃ o' ep', (h.update a (Obj.putSet es' t')).get? a = some o' ∧ o'.data = .set es' ep' t' ∧ o'.ExactSet ∧ Tab knd (h.update a (Obj.putSet es' t')) a es' := by
  have q := Heap.get?_update_self (Obj.putSet es' t') ho (by rw [putSet_of es' t' hd] <;> rfl)
  rw [putSet_of es' t' hd] at q
  exact ⟨_, ep + 1, q, rfl, hx, ⟨_, ep + 1, t', q, hx, rfl, f, r, l⟩, el, few⟩
/-- the end of an add: what is laid anew is what was laid -/
theorem tab_end {g : Bool → Sem Unit} (hg : ∀ (b : Bool) (u : Shared) (Z : Unit → Shared → Prop), Z () u → wpAny (model P w) A (g b) Z E u) {o : Obj} {es es1 : Array (Int × Value)} {ep : Nat} {t t2 : SetTable} {wd : Bool} {Z : Option Bool → Shared → Prop}
    (ho : s.heap.get? a = some o) (hx : o.ExactSet) (hd : o.data = .set es ep t) (el : ElemsOf knd es1.toList) (few : es1.size < scanBound) (f : t2.fits es1.size = true) (r : Ris t2.place.toList) (l : w.params.followText "set-order" = true ∨ t2.led = true)
    (k : ∀ h' es', Heap.SameBut a s.heap h' → Tab knd h' a es' → es'.toList.Perm es1.toList → Z (some true) { s with heap := h' }) :
    wpAny (model P w) A (storeSet a es1 t2 >>= fun _ => if (!wd && t2.tooFull) = true then (g (relayAll t2 es1 (SetTable.grown es1.size)).2.2 >>= fun _ => storeSet a (relayAll t2 es1 (SetTable.grown es1.size)).1 (relayAll t2 es1 (SetTable.grown es1.size)).2.1 >>= fun _ => pure (some true)) else pure (some true)) Z E s := by
  obtain ⟨o1, ep1, h1, d1, x1, T1⟩ := tab_put ho hx hd el few f r l
  have same := Heap.SameBut.update s.heap a (Obj.putSet es1 t2)
  refine wpAny_bind (wpAny_storeSet_of ho hd ?_ (fits_of_scanBound few))
  split
  · have p3 := relayAll_perm t2 es1 (SetTable.grown es1.size)
    have f3 := relayAll_fits t2 es1 (SetTable.grown es1.size)
    have r3 := relayAll_ris t2 es1 (SetTable.grown es1.size)
    have l3 := relayAll_led t2 es1 (SetTable.grown es1.size)
    revert p3 f3 r3 l3
    generalize relayAll t2 es1 (SetTable.grown es1.size) = W
    rcases W with ⟨es3, t3, gv⟩
    intro p3 f3 r3 l3
    have z3 : es3.size = es1.size := by simpa using p3.length_eq
    obtain ⟨_, _, _, _, _, T3⟩ := tab_put h1 x1 d1 (el.perm p3) (by rw [z3]; exact few) f3 r3 (l.imp id fun q => l3.trans q)
    exact wpAny_bind (hg _ _ _ (wpAny_bind (wpAny_storeSet_of h1 d1 (wpAny_pure (k _ es3 (same.trans (Heap.SameBut.update _ a _)) T3 p3)) (fits_of_scanBound (by rw [z3]; exact few)))))
  · exact wpAny_pure (k _ es1 same T1 (.refl _))
/-- one that is there stays alone; another one comes in somewhere -/
theorem tab_add {es : Array (Int × Value)} {k : K} {x : Value} {Z : Bool → Shared → Prop} (hk : knd.is k x = true) (hs : x.scannable = true) (T : Tab knd s.heap a es) (room : es.size + 1 < scanBound)
    (old : ∀ e ∈ es.toList, knd.is k e.2 = true → Z false s) (new : (∀ e ∈ es.toList, ¬ knd.is k e.2 = true) → ∀ h' es', Heap.SameBut a s.heap h' → Tab knd h' a es' → es'.toList.Perm ((knd.hash k, x) :: es.toList) → Z true { s with heap := h' }) :
    wpAny (model P w) A (setAddHashed a x (knd.hash k)) Z E s := by
  obtain ⟨o, ep, t, ho, hx, hd, hf, hr, hl⟩ := T.ex
  have gw : ∀ (b : Bool) (u : Shared) (Y : Unit → Shared → Prop), Y () u → wpAny (model P w) A (match b with | true => rule "set.scan.the-table-gave-way" | false => pure ()) Y E u := by
    rintro (_ | _) u Y q
    · exact wpAny_pure q
    · exact wpAny_rule q
  unfold setAddHashed setAddHashedIn; refine wpAny_holding (wpAny_bind (wpAny_setState_of ho hd hf ?_))
  show wpAny _ _ (if byScan x es = true then _ else _) _ _ _
  rw [byScan_of hs T.few T.el, if_pos rfl]; unfold setAddByScan
  refine wpAny_bind (wpAny_bind (wpAny_rule (wpAny_bind (wpAny_setScan_of hk ho hd hf T.el ?_))))
  cases hi : es.toList.findIdx? fun e => knd.is k e.2 with
  | some j =>
    obtain ⟨lt, pj, _⟩ := List.findIdx?_eq_some_iff_getElem.mp hi
    exact wpAny_pure (wpAny_pure (old _ (List.getElem_mem lt) pj))
  | none =>
    have non : ∀ e ∈ es.toList, ¬ knd.is k e.2 = true := fun e he => by simpa using List.findIdx?_eq_none_iff.mp hi e he
    have p1 := layNew_perm t es (knd.hash k) x
    have f1 := layNew_fits t es (knd.hash k) x
    have r1 := layNew_ris t es (knd.hash k) x hr
    have l1 := layNew_led t es (knd.hash k) x
    dsimp only
    generalize layNew t es (knd.hash k) x = W at p1 f1 r1 l1 ⊢
    rcases W with ⟨es1, t1, wd, gv⟩
    dsimp only at p1 f1 r1 l1 ⊢
    rw [Array.toList_push] at p1
    have z1 : es1.size = es.size + 1 := by simpa using p1.length_eq
    have e1 := (T.el.push hk hs).perm p1
    have led1 : w.params.followText "set-order" = true ∨ t1.led = true := hl.imp id fun q => l1.trans q
    have fin : ∀ h' es', Heap.SameBut a s.heap h' → Tab knd h' a es' → es'.toList.Perm es1.toList → Z true { s with heap := h' } := fun h' es' sb T' p' => new non h' es' sb T' ((p'.trans p1).trans (List.perm_append_singleton _ _))
    refine wpAny_bind (gw _ _ _ ?_)
    have few1 : es1.size < scanBound := by rw [z1]; exact room
    by_cases hp : t1.plain = true
    · rw [hp, if_pos rfl, hashByValue_scannable 8 hs]
      refine wpAny_bind (wpAny_pure ?_)
      cases plainKind x with
      | true => exact tab_end gw ho hx hd e1 few1 f1 r1 led1 fun h' es' sb T' p' => wpAny_pure (fin h' es' sb T' p')
      | false => exact tab_end gw ho hx hd e1 few1 (SetTable.fits_plain_off f1) r1 led1 fun h' es' sb T' p' => wpAny_pure (fin h' es' sb T' p')
    · rw [if_neg hp]
      exact wpAny_bind (wpAny_pure (tab_end gw ho hx hd e1 few1 f1 r1 led1 fun h' es' sb T' p' => wpAny_pure (fin h' es' sb T' p')))
end
end Yt

set_option Elab.async false
set_option linter.all false
set_option maxRecDepth 100000
set_option maxHeartbeats 2000000
namespace Yt
open PySem PySem.Spec PyProof.Rows L2
/-! ### sets of numbers and texts as tracked things -/
def keyOfV : Value → Key
  | .int i _ => .inl i
  | .str x _ => .inr x
  | _ => .inl 0
theorem keyOfV_of {k : Key} {u : Value} (r : RelV (kV k) u) : keyOfV u = k := by
  cases k with
  | inl i =>
    obtain ⟨t, rfl⟩ := r
    rfl
  | inr x =>
    obtain ⟨t, rfl⟩ := r
    rfl
def MemK (e : Int × Value) : Prop := ∃ k, RelV (kV k) e.2
theorem MemK.at {e : Int × Value} (h : MemK e) : RelV (kV (keyOfV e.2)) e.2 := by
  obtain ⟨k, r⟩ := h
  rw [keyOfV_of r]
  exact r
/-- the set at a: its members, in whatever order -/
def SetKAt (P : Program) (w : World) (h : Heap) (a : Addr) (ks : List Key) : Prop := ∃ es, Tab (mixKind P w) h a es ∧ (es.toList.map fun e => keyOfV e.2).Perm ks ∧ ks.Nodup ∧ ∀ e ∈ es.toList, MemK e
def SetKO (P : Program) (w : World) (a : Addr) (ks : List Key) : HO := .ext fun h => SetKAt P w h a ks
theorem setKO_ok {P : Program} {w : World} {H : Hp} {h : Heap} {a : Addr} {ks : List Key} (R : SetKAt P w h a ks) : ObjOk P w H h a (SetKO P w a ks) :=
  ⟨R, R.elim fun es z => z.1.there, fun h1 h2 p k => p.elim fun es z => ⟨es, z.1.at k, z.2⟩⟩
theorem setKO_at {X : Cx} {pins : List (Addr × Obj)} {σ : L2.St} {H : Hp} {s : Shared} {a : Addr} {ks : List Key} (I : Inv X pins σ H s) (ha : H a = some (SetKO X.prog X.w a ks)) : SetKAt X.prog X.w s.heap a ks := (I.hok a _ ha).1
abbrev fresh (w : World) : Obj := { cls := .type "set", dict := none, data := .set #[] 0 (.fresh 0 0 (!w.params.followText "set-order")) }
theorem setK_fresh {P : Program} {w : World} (h : Heap) : SetKAt P w (h.push (fresh w)) h.objs.size [] := by
  refine ⟨#[], ⟨⟨_, 0, _, Heap.get?_push_size _ rfl, ⟨rfl, rfl, rfl⟩, rfl, rfl, List.Pairwise.nil, ?_⟩, (fun e he => by simp at he), by decide⟩, .refl _, List.nodup_nil, fun e he => by simp at he⟩
  cases w.params.followText "set-order" with
  | false => exact .inr rfl
  | true => exact .inl rfl
/-! what comes in -/
open Classical in
noncomputable def putS (ks : List Key) (k : Key) : List Key := if k ∈ ks then ks else ks ++ [k]
def addK (P : Program) (w : World) (D : Addr) (y : V) (H : Hp) (N : Hp → Prop) : Prop := ∃ k ks, y = kV k ∧ H D = some (SetKO P w D ks) ∧ ks.length + 1 < scanBound ∧ N (upd H D (SetKO P w D (putS ks k)))
/-- what a set's add has to do for a comprehension -/
def Adds (P : Program) (w : World) (add : Addr → V → Hp → (Hp → Prop) → Prop) : Prop := ∀ (Y : Cx), Y.prog = P → Y.w = w → ∀ {pins : List (Addr × Obj)} {σ : L2.St} {H : Hp} {s : Shared} {E : Value → Shared → Prop} {D : Addr} {y : V} {u : Value} {N : Hp → Prop} {Q : Value → Shared → Prop},
  Inv Y pins σ H s → RelV y u → add D y H N → (∀ t G, Inv Y pins σ G t → N G → Q .none t) → wpAny (model Y.prog Y.w) Y.A (call (.builtin "set.add") [.ref D, u]) Q E s
theorem addK_ok {P : Program} {w : World} : Adds P w (addK P w) := by
  rintro Y rfl rfl pins σ H s E D y u N Q I r ⟨k, ks, rfl, hD, room, n⟩ fin
  obtain ⟨es, T, pm, nd, mem⟩ := setKO_at I hD
  have sz : es.size = ks.length := by
    have := pm.length_eq
    rwa [List.length_map, Array.length_toList] at this
  have hT : s.TypeIs (.ref D) "set" := by
    obtain ⟨o, _, _, ho, hx, _⟩ := T.ex
    exact ⟨o, ho, hx.1⟩
  have put : ∀ (h' : Heap) (tk : Nat), Heap.SameBut D s.heap h' → SetKAt Y.prog Y.w h' D (putS ks k) → Q .none { s with heap := h', toks := tk } := fun h' tk sb new =>
    fin _ _ (I.write (e := D) (t' := tk) (by rw [hD]; trivial) (.inl rfl) (fun b o hb ho => (sb.2 b hb).trans ho) (new.elim fun es z => z.1.there) (setKO_ok new)) n
  refine wpAny_call_entry F.slot_set_add hT F.entry_set_add ?_ (F.args_set_add_2 _ _)
  unfold Builtin.«set.add» Builtin.Frozenset.oneOther; simp only [List.isEmpty_nil, bind_assoc]
  unfold Builtin.Frozenset.addrOf setAdd; refine wpAny_bind (wpAny_pure (wpAny_bind (wpAny_pure (wpAny_bind (wpAny_holding (wpAny_bind ((mixKind Y.prog Y.w).pyHash (kV_is r) ?_)))))))
  refine tab_add (s := { s with toks := s.toks + 1 }) (kV_is r) (key_scan r) T (by omega) (fun e he q => ?_) fun non h' es' sb T' p' => ?_
  · have ek : keyOfV e.2 = k := (mixKind Y.prog Y.w).inj e.2 _ _ (kV_is (mem e he).at) q
    have hk : k ∈ ks := pm.mem_iff.mp (List.mem_map.mpr ⟨e, he, ek⟩)
    refine wpAny_pure ⟨_, rfl, put s.heap _ (Heap.SameBut.refl D s.heap) ?_⟩
    unfold putS
    rw [if_pos hk]
    exact ⟨es, T, pm, nd, mem⟩
  · have hk : k ∉ ks := fun z => by
      obtain ⟨e, he, ek⟩ := List.mem_map.mp (pm.mem_iff.mpr z)
      exact non e he (by rw [← ek]; exact kV_is (mem e he).at)
    refine wpAny_pure ⟨_, rfl, put h' _ sb ?_⟩
    unfold putS
    rw [if_neg hk]
    have q := p'.map fun e : Int × Value => keyOfV e.2
    rw [List.map_cons] at q
    have e1 : keyOfV u = k := keyOfV_of r
    refine ⟨es', T', ?_, ?_, fun e he => ?_⟩
    · refine q.trans ?_
      show (keyOfV u :: _).Perm _
      rw [e1]
      exact (List.Perm.cons k pm).trans (List.perm_append_singleton k ks).symm
    · exact List.nodup_append.mpr ⟨nd, by simp, fun x hx y hy z => hk (by rw [List.mem_singleton.mp hy] at z; exact z ▸ hx)⟩
    · rcases List.mem_cons.mp (p'.mem_iff.mp he) with z | z
      · rw [z]
        exact ⟨k, r⟩
      · exact mem e z
/-! ### {elt for target in iter if ..} -/
def turnS (add : Addr → V → Hp → (Hp → Prop) → Prop) (g : TG) (tt : TT) (te : TE) (vs : List Nat) (σ : L2.St) (D : Addr) (x : V) (H : Hp) (N : Hp → Prop) : Prop :=
  g x (wipe σ vs) H fun σ2 H2 => wipe σ2 vs = wipe σ vs ∧ tt σ2 H2 fun c H3 => if c = true then te σ2 H3 fun y H4 => add D y H4 N else N H3
def goesS (add : Addr → V → Hp → (Hp → Prop) → Prop) (g : TG) (tt : TT) (te : TE) (vs : List Nat) (σ : L2.St) (J : It) (D : Addr) (W : Nat → Nat → Hp → Prop) (R : Hp → Prop) : Prop :=
  ∀ i m H, W i m H → (J.stop i H ∧ R H) ∨ (J.go i H ∧ ∃ N : Hp → Prop, (∀ H', N H' → ∃ m', m' < m ∧ W (i + 1) m' H') ∧ ∀ x H', J.yld i H x H' → turnS add g tt te vs σ D x H' N)
def tSC (new : Addr → HO) (add : Addr → V → Hp → (Hp → Prop) → Prop) (wi : TI) (g : TG) (tt : TT) (te : TE) (vs : List Nat) : TE := fun σ H Q =>
  wi σ H fun J H1 => ∀ D, H1 D = none → ∃ W : Nat → Nat → Hp → Prop, (∃ m, W 0 m (upd H1 D (new D))) ∧ goesS add g tt te vs σ J D W fun H2 => Q (.ref D) H2
section
variable {X : Cx} {new : Addr → HO} {add : Addr → V → Hp → (Hp → Prop) → Prop}
theorem sC_core {pins : List (Addr × Obj)} {s : Shared} {σ : L2.St} {H : Hp} {Q : VK} {ex tg it : Expr} {ifs : List Expr} {sc : Scope} {own : List (Str × Nat)} {p p' : Pos} {wi : TI} {g : TG} {tt : TT} {te : TE} {Qf : Value → Shared → Prop}
    (hnew : ∀ (h : Heap) (G : Hp), ObjOk X.prog X.w G (h.push (fresh X.w)) h.objs.size (new h.objs.size)) (hadd : Adds X.prog X.w add) (calm : X.calm = true) (nd : X.N.Nodup) (I : Inv X pins σ H s) (hi : PI X tg it wi) (ok : BlkOk X.N X.env.scope sc own)
    (hg : ∀ s H C cl fp, PG (X.blk s H sc (compEnvC sc cl C X.env) fp) tg g) (ht : ∀ s H C cl fp, PTs (X.blk s H sc (compEnvC sc cl C X.env) fp) ifs tt) (he : ∀ s H C cl fp, PE (X.blk s H sc (compEnvC sc cl C X.env) fp) ex te)
    (hs : ∀ x, foldedSetIterable it X.env x = pure x) (h : tSC new add wi g tt te (own.map (·.2)) σ H Q)
    (fin : ∀ D C t m H', Inv X pins σ H' t → Q (.ref D) H' → t.heap.Ns C m → FpOk X pins H' C → compPost (model X.prog X.w) X.A X.xe none Qf (.ref D) C (.ok .next) t) :
    wpAny (model X.prog X.w) X.A (comprehension (.SetComp ex [⟨tg, it, ifs, 0⟩] sc p) sc X.env p' (newSet (.type "set")) false (eval it X.env)) Qf X.xe s := by
  have clo : ∀ y ∈ sc.names, y.2 = .free → ∃ c, X.env.cells.lookup y.1 = some c := fun y hy e => (ok.free y hy e).elim (fun k => I.ok.has _ (.inl k)) fun k => I.ok.has _ (.inr k)
  refine wpAny_comprehension_free (use := none) rfl hs (closure_ok clo) ok.kind (fun y hy e => by rw [ok.uniq y hy, e]) (thn (hi.run pins s σ H _ I h) fun _ s1 hx => thn hx fun _ s2 ⟨a, fp, tn, J, H2, ea, I2, T, st2, f2, q⟩ => ?_)
  subst ea
  refine PpSet.newSet_ok (newEnv_comp ?_)
  obtain ⟨D, hD⟩ : ∃ D, D = s2.heap.objs.size := ⟨_, rfl⟩
  rw [← hD]
  have nD : H2 D = none := I2.hok.fresh (Nat.le_of_eq hD.symm)
  obtain ⟨W, ⟨m0, w0⟩, turn⟩ := q D nD
  have I3 : Inv X pins σ (upd H2 D (new D)) ⟨s2.heap.push (fresh X.w), s2.gens, s2.drawn, s2.toks, s2.os⟩ := by
    refine I2.laid (t' := s2.toks) (fun b o e => Heap.get?_push_of_some _ e) (Nat.le_of_eq hD.symm) ?_
    rw [hD]
    exact hnew s2.heap _
  have live : ∀ b ∈ fp, b < s2.heap.objs.size := fun b hb => (T.obj _ _ st2 b hb).elim fun o e => Heap.lt_size e.1
  have f3 : ∀ b ∈ fp, FpOk X pins (upd H2 D (new D)) b ∧ b < (s2.heap.push (fresh X.w)).objs.size := fun b hb =>
    ⟨⟨(upd_ne (by rw [hD]; exact Nat.ne_of_lt (live b hb))).trans (f2 b hb).1, (f2 b hb).2⟩, by rw [Heap.size_push]; exact Nat.lt_succ_of_lt (live b hb)⟩
  have st3 : tn 0 (s2.heap.push (fresh X.w)) := T.keep _ _ _ st2 fun b _ o e => Heap.get?_push_of_some _ e
  have I4 := block_start I3 ok nd f3
  generalize hs3 : (⟨s2.heap.push (fresh X.w), s2.gens, s2.drawn, s2.toks, s2.os⟩ : Shared) = s3 at I3 I4 ⊢
  have h3 : s3.heap = s2.heap.push (fresh X.w) := by rw [← hs3]
  rw [← h3] at f3 st3
  have pg := hg s3 (upd H2 D (new D)) s3.heap.objs.size (cellsFrom (s3.heap.objs.size + 1) sc.names (cloFrom X.env.cells sc.names [])) fp
  have pt := ht s3 (upd H2 D (new D)) s3.heap.objs.size (cellsFrom (s3.heap.objs.size + 1) sc.names (cloFrom X.env.cells sc.names [])) fp
  have pe := he s3 (upd H2 D (new D)) s3.heap.objs.size (cellsFrom (s3.heap.objs.size + 1) sc.names (cloFrom X.env.cells sc.names [])) fp
  have unt : ∀ b ∈ fp, (upd H2 D (new D)) b = none := fun b hb => (f3 b hb).1.1
  have goal : codeAny (model X.prog X.w) X.A (.compStart (.SetComp ex [⟨tg, it, ifs, 0⟩] sc p) 0 (.ref a) (.ref D) (compEnvC sc (cellsFrom (s3.heap.objs.size + 1) sc.names (cloFrom X.env.cells sc.names [])) s3.heap.objs.size X.env)) (compPost (model X.prog X.w) X.A X.xe none Qf (.ref D) s3.heap.objs.size) ({ s3 with heap := pushCells (s3.heap.push { cls := .type "dict", data := .dict #[] }) sc.names } : Shared) := by
    obtain ⟨ce, hce⟩ : ∃ c, c = compEnvC sc (cellsFrom (s3.heap.objs.size + 1) sc.names (cloFrom X.env.cells sc.names [])) s3.heap.objs.size X.env := ⟨_, rfl⟩
    rw [← hce] at I4 pg pt pe ⊢
    have cL : ce.locals = s3.heap.objs.size := by rw [hce] <;> rfl
    obtain ⟨H3, hH3⟩ : ∃ G, G = upd H2 D (new D) := ⟨_, rfl⟩
    rw [← hH3] at I3 I4 pg pt pe w0 unt f3
    generalize hs4 : ({ s3 with heap := pushCells (s3.heap.push { cls := .type "dict", data := .dict #[] }) sc.names } : Shared) = s4 at I4 ⊢
    have st4 : tn 0 s4.heap := T.keep _ _ _ st3 fun b _ o e => by
      rw [← hs4]
      exact pushCells_keeps _ _ _ _ (Heap.get?_push_of_some _ e)
    have pinned : ∀ {σ' : L2.St} {G : Hp} {t : Shared}, Inv (X.blk s3 H3 sc ce fp) [] σ' G t → (∀ b ∈ fp, G b = none) → ∀ b ∈ fp, FpOk (X.blk s3 H3 sc ce fp) [] G b := fun {σ' G t} J' hn b hb =>
      ⟨hn b hb, (J'.ok.exf b hb).1, J'.ok.exfs b hb, .inl hb, fun x c e => (J'.ok.exf b hb).2 x c e, fun r hr => absurd (show r ∈ ([] : List (Addr × Obj)) ++ [] from hr) (by simp)⟩
    have loop : codeAny (model X.prog X.w) X.A (.compLoop (.SetComp ex [⟨tg, it, ifs, 0⟩] sc p) 0 (.ref a) (.ref D) ce) (compPost (model X.prog X.w) X.A X.xe none Qf (.ref D) s3.heap.objs.size) s4 := by
      refine PpSet.compLoopS_any (fun n t => ∃ i G, Inv (X.blk s3 H3 sc ce fp) [] (wipe σ (own.map (·.2))) G t ∧ tn i t.heap ∧ (∀ b ∈ fp, G b = none) ∧ W i n G) ?_ m0 ⟨0, H3, I4, st4, unt, w0⟩
      rintro n t5 ⟨i, H5, I5, st5, n5, w5⟩
      rcases turn i n H5 w5 with ⟨stop, qq⟩ | ⟨go, N, hN, step⟩
      · refine thnF (T.done (X.blk s3 H3 sc ce fp) rfl rfl rfl calm i [] t5 _ H5 (fun _ _ => False) I5 (pinned I5 n5) st5 stop) fun r t6 ⟨hr, I6⟩ => ?_
        subst hr
        have nC : H5 s3.heap.objs.size = none := by
          have z : H5 ce.locals = none := I6.free
          rwa [cL] at z
        obtain ⟨mm, hn, _⟩ := I6.loc
        have hn' : t6.heap.Ns ce.locals mm := hn
        rw [cL] at hn'
        exact fin D s3.heap.objs.size t6 mm H5 (I3.call' (ch := fp) I6.os I6.base I6.hok I6.bare fun b hb => ⟨(f3 b hb).1.2.2.2.1, (f3 b hb).1.2.1, (f3 b hb).1.2.2.2.2.1, (f3 b hb).1.2.2.2.2.2⟩) qq hn' (I3.fpOk (Nat.le_refl _) nC)
      · refine thnF (T.item (X.blk s3 H3 sc ce fp) rfl rfl rfl calm i [] t5 _ H5 (fun _ _ => False) I5 (pinned I5 n5) st5 go) fun r t6 ⟨u, hr, h6⟩ => ?_
        subst hr
        refine thnF h6 fun _ t7 ⟨x, H7, I7, r7, y7, st7, n7⟩ => ?_
        refine thnF (pg.run _ t7 _ H7 x u _ (I7.pinned (pinned I7 n7) (T.obj _ _ st7)) r7 (step x H7 y7)) fun _ t8 ⟨σ8, H8, I8, hw8, q8⟩ => ?_
        refine thnF (pt.run _ t8 σ8 H8 _ I8 q8) fun b t9 ⟨H9, I9, q9⟩ => ?_
        have back : ∀ {t : Shared} {G : Hp}, Inv (X.blk s3 H3 sc ce fp) ([] ++ pinsAt fp t7.heap) σ8 G t → N G → ∃ m, m < n ∧ ∃ i G, Inv (X.blk s3 H3 sc ce fp) [] (wipe σ (own.map (·.2))) G t ∧ tn i t.heap ∧ (∀ b ∈ fp, G b = none) ∧ W i m G := fun {t G} J' nx => by
          obtain ⟨m', lt, w'⟩ := hN G nx
          have held : ∀ b ∈ fp, ∀ o, t7.heap.get? b = some o → t.heap.get? b = some o ∧ G b = none := fun b hb o e =>
            have z := J'.pin (b, o) (List.mem_append_right _ (List.mem_append_right _ (mem_pinsAt hb e)))
            ⟨z.1, z.2.1⟩
          refine ⟨m', lt, i + 1, G, (J'.unpinned (pins := [])).weak (by rw [← hw8, wipe_length]) (fun j v e => (wipe_some (hw8.symm ▸ e)).1), T.keep _ _ _ st7 fun b hb o e => (held b hb o e).1, fun b hb => ?_, w'⟩
          obtain ⟨o, e, _⟩ := T.obj _ _ st7 b hb
          exact (held b hb o e).2
        cases b with
        | false => exact back I9 q9
        | true => exact thnF (pe.run _ t9 σ8 H9 _ I9 q9) fun zk t10 ⟨yk, H10, I10, r10, q10⟩ => hadd (X.blk s3 H3 sc ce fp) rfl rfl I10 r10 q10 fun t G J' nx => back J' nx
    exact PpSet.codeAny_compStart_set loop (T.self X.A 0 _ _ _ st4 loop)
  exact goal
theorem pe_sC {ex tg it : Expr} {ifs : List Expr} {sc : Scope} {own : List (Str × Nat)} {p : Pos} {wi : TI} {g : TG} {tt : TT} {te : TE} (hnew : ∀ (h : Heap) (G : Hp), ObjOk X.prog X.w G (h.push (fresh X.w)) h.objs.size (new h.objs.size)) (hadd : Adds X.prog X.w add)
    (calm : X.calm = true) (nd : X.N.Nodup) (hi : PI X tg it wi) (ok : BlkOk X.N X.env.scope sc own)
    (hg : ∀ s H C cl fp, PG (X.blk s H sc (compEnvC sc cl C X.env) fp) tg g) (ht : ∀ s H C cl fp, PTs (X.blk s H sc (compEnvC sc cl C X.env) fp) ifs tt) (he : ∀ s H C cl fp, PE (X.blk s H sc (compEnvC sc cl C X.env) fp) ex te) (hs : ∀ x, foldedSetIterable it X.env x = pure x := by intro _; rfl) :
    PE X (.SetComp ex [⟨tg, it, ifs, 0⟩] sc p) (tSC new add wi g tt te (own.map (·.2))) := by
  refine ⟨fun pins s σ H Q I h => ?_⟩
  rw [PpSet.eval_SetComp]
  refine sC_core hnew hadd calm nd I hi ok hg ht he hs h fun D C t m H' I' q hn f => ⟨m, hn, fun h'' sb => ?_⟩
  obtain ⟨f0, f1, f2, f3, f4, f5⟩ := f
  exact ⟨.ref D, H', I'.turned (t' := t.toks) (fun b o hb e => (sb.2 b hb).trans e) f0 f1 f3 f4 f5, rfl, q⟩
/-- over a walk: Pv by the turn -/
theorem sC_it {J : It} {n : Nat} {G : Hp → Prop} {S : Nat → Hp → V → Hp → Prop} (wk : Walk J n G S) {g : TG} {tt : TT} {te : TE} {vs : List Nat} {σ : L2.St} {H1 : Hp} {D : Addr} {R : Hp → Prop} (Pv : Nat → Hp → Prop) (h0 : Pv 0 (upd H1 D (new D))) (hG : ∀ i H, i ≤ n → Pv i H → G H)
    (hs : ∀ i x H H', i < n → Pv i H → S i H x H' → turnS add g tt te vs σ D x H' (Pv (i + 1))) (hd : ∀ H, Pv n H → R H) :
    ∃ W : Nat → Nat → Hp → Prop, (∃ m, W 0 m (upd H1 D (new D))) ∧ goesS add g tt te vs σ J D W R := by
  refine ⟨fun i m H => m = n - i ∧ i ≤ n ∧ Pv i H, ⟨_, rfl, Nat.zero_le _, h0⟩, ?_⟩
  rintro i m H ⟨rfl, le, pv⟩
  rcases Nat.lt_or_ge i n with lt | ge
  · exact .inr ⟨wk.goes i H lt (hG i H le pv), Pv (i + 1), fun H' p' => ⟨n - (i + 1), by omega, rfl, lt, p'⟩, fun x H' y => hs i x H H' lt pv (wk.yields i H x H' lt (hG i H le pv) y)⟩
  · obtain rfl : i = n := Nat.le_antisymm le ge
    exact .inl ⟨wk.stops H (hG _ H le pv), hd H pv⟩
/-! ### sorted(s), s a set of texts -/
theorem strs_of : ∀ {us : List Value}, (∀ u ∈ us, ∃ x t, u = Value.str x t) → ∃ zs : List Str, StrsAre us zs ∧ us.map keyOfV = zs.map Sum.inr
  | [], _ => ⟨[], .nil, rfl⟩
  | u :: us, h => by
    obtain ⟨zs, h1, h2⟩ := strs_of (us := us) fun v hv => h v (List.mem_cons_of_mem _ hv)
    obtain ⟨x, t, rfl⟩ := h u List.mem_cons_self
    exact ⟨x :: zs, .cons _ _ h1, by rw [List.map_cons, List.map_cons, h2] <;> rfl⟩
theorem inr_perm {xs ys : List Str} (p : (xs.map (Sum.inr : Str → Key)).Perm (ys.map Sum.inr)) : xs.Perm ys := by
  have q := p.map fun k : Key => match k with | .inr x => x | .inl _ => ("" : Str)
  rw [List.map_map, List.map_map] at q
  have e : ((fun k : Key => match k with | .inr x => x | .inl _ => ("" : Str)) ∘ (Sum.inr : Str → Key)) = id := rfl
  rwa [e, List.map_id, List.map_id] at q
def rSortK (P : Program) (w : World) : List V → Hp → VK → Prop := fun vs H Q => ∃ (a : Addr) (zs : List Str), vs = [V.ref a] ∧ H a = some (SetKO P w a (zs.map Sum.inr)) ∧ zs.length < 64 ∧ ∀ (ys : List Str) (p : Addr), ys.Perm zs → sortedS ys = true → H p = none → Q (.ref p) (upd H p (.lst (ys.map V.str)))
theorem cr_sortK (calm : X.calm = true) : CallR X (.builtin "sorted") (rSortK X.prog X.w) := by
  rintro pins s σ H vs us Q I r ⟨a, zs, rfl, ha, few, q⟩
  obtain ⟨es, T, pm, nd, mem⟩ := setKO_at I ha
  obtain ⟨o, ep, t, ho, hx, hd, hf, hr, hl⟩ := T.ex
  rw [Vals.ref1 r]
  refine Calls.call_function_entry kind_sorted plain_sorted entry_sorted (args_sorted1 _) ?_
  unfold Builtin.«sorted»
  refine wpAny_bind (m := checkCount "sorted" 1 1 _) (wpAny_pure (wpAny_bind (collect_set (A := X.A.in1) (I.ok.hd calm) ⟨o, ho, hx.1, hd⟩ hf T.few hr hl fun s1 out k1 z1 g1 o1 p1 => ?_)))
  have I1 : Inv X pins σ H s1 := I.call' (ch := []) o1 (Un.kept k1) (I.hok.kept k1) (by rw [g1]; exact I.bare) fun _ z => nomatch z
  obtain ⟨xs, hS, ek⟩ := strs_of (us := out) fun u hu => by
    obtain ⟨e, he, rfl⟩ := List.mem_map.mp (p1.mem_iff.mp hu)
    have hk := pm.mem_iff.mp (List.mem_map.mpr ⟨e, he, rfl⟩)
    obtain ⟨x, _, ex⟩ := List.mem_map.mp hk
    have rr := (mem e he).at
    rw [← ex] at rr
    obtain ⟨t, et⟩ := rr
    exact ⟨x, t, et⟩
  have px : xs.Perm zs := by
    refine inr_perm ?_
    rw [← ek]
    have := p1.map keyOfV
    rw [List.map_map] at this
    exact this.trans pm
  have ol : out.length = zs.length := by rw [← px.length_eq, hS.length]
  refine wpAny_bind (wpAny_newList ?_ (by rw [ol, sizeLine_eq]; omega))
  have hoL : (s1.heap.push (seqObj "list" out.toArray 0)).get? s1.heap.objs.size = some (seqObj "list" out.toArray 0) := Heap.get?_push_size _ rfl
  refine wpAny_bind (wpAny_holding (wpAny_call_entry slot_list_sort ⟨_, hoL, rfl⟩ entry_list_sort
    (list_sort_treeK strKind_oneLt (s := { s1 with heap := s1.heap.push (seqObj "list" out.toArray 0) }) hoL hS.keysOf (fun v₁ v₂ rest e => keyKind_strs (by rw [← e]; exact hS)) (by rw [ol]; exact few) fun st' hp hs => ⟨_, rfl, ?_⟩) (args_list_sort _)))
  obtain ⟨ys, w1, w2, w3⟩ := sorted_out_str hS hp hs
  obtain ⟨e', he'⟩ := sortedHeap_at (vs := out) (out := (arrOf st').map (·.2)) hoL
  have small : (ys.map V.str).length ≤ sizeLine := by
    rw [List.length_map, w2.length_eq, px.length_eq, sizeLine_eq]
    omega
  refine wpAny_pure ⟨_, rfl, .ref s1.heap.objs.size, upd H s1.heap.objs.size (.lst (ys.map V.str)), I1.laid (t' := s1.toks) (fun b u e => ?_) (Nat.le_refl _) (show ObjOk X.prog X.w _ _ _ (.lst (ys.map V.str)) from ⟨small, ((arrOf st').map (·.2)).toList, e', vals_of_strs w1, by rw [Array.toArray_toList]; exact he'⟩), rfl, q ys _ (w2.trans px) w3 (I1.hok.fresh (Nat.le_refl _))⟩
  have hb : b < s1.heap.objs.size := Heap.lt_size e
  rw [sortedHeap_old (Nat.ne_of_lt hb) (by rw [size_push']; exact Nat.lt_succ_of_lt hb)]
  exact Heap.get?_push_of_some _ e
end
end Yt

set_option Elab.async false
set_option linter.all false
set_option maxRecDepth 100000
set_option maxHeartbeats 2000000
namespace Yt
open PySem PySem.Spec PyProof.Rows L2
abbrev sIsThree : Stmt := top 33
abbrev sIsRow : Stmt := top 14
abbrev sThreeRows : Stmt := top 34
abbrev sGift : Stmt := top 30
def rLen (K : PySem.W.Frag) : List V → Hp → VK → Prop := fun xs H Q => ∃ x n, xs = [x] ∧ LenV K x H n ∧ Q (.int n) H
/-- a row of texts in the heap -/
abbrev RowAt (H : Hp) (t : Addr) (zs : List Str) : Prop := H t = some (.tup (zs.map V.str))
def giftL (m : List (List Key × V)) : List Str → List Str → List Str → List V
  | x :: xs, y :: ys, z :: zs => (valV m [.inr x, .inr y, .inr z]).getD .non :: giftL m xs ys zs
  | _, _, _ => []
theorem giftL_more (m : List (List Key × V)) : ∀ (xs ys zs : List Str) (i : Nat) (x y z : Str), xs[i]? = some x → ys[i]? = some y → zs[i]? = some z →
    giftL m (xs.take (i + 1)) (ys.take (i + 1)) (zs.take (i + 1)) = giftL m (xs.take i) (ys.take i) (zs.take i) ++ [(valV m [.inr x, .inr y, .inr z]).getD .non]
  | a :: xs, b :: ys, c :: zs, 0, x, y, z, h1, h2, h3 => by
    cases Option.some.inj h1
    cases Option.some.inj h2
    cases Option.some.inj h3
    rfl
  | a :: xs, b :: ys, c :: zs, i + 1, x, y, z, h1, h2, h3 => by
    have e := giftL_more m xs ys zs i x y z (by simpa using h1) (by simpa using h2) (by simpa using h3)
    simp only [List.take_succ_cons, giftL, List.cons_append, e]
theorem giftL_len (m : List (List Key × V)) : ∀ (xs ys zs : List Str) (n : Nat), xs.length = n → ys.length = n → zs.length = n → (giftL m xs ys zs).length = n
  | [], _, _, n, h1, _, _ => by
    subst h1
    cases ‹List Str› <;> rfl
  | x :: xs, [], _, n, h1, h2, _ => by
    subst h2
    cases h1
  | x :: xs, y :: ys, [], n, h1, h2, h3 => by
    subst h3
    cases h1
  | x :: xs, y :: ys, z :: zs, n + 1, h1, h2, h3 => by
    simp only [giftL, List.length_cons, giftL_len m xs ys zs n (by simpa using h1) (by simpa using h2) (by simpa using h3)]
  | x :: xs, y :: ys, z :: zs, 0, h1, h2, h3 => by cases h1
section
variable {P : Program} {w : World} {K : PySem.W.Frag} {mg : Str → Option Value} {base : Heap} {f : Addr} {fd : FuncData}
theorem scIsThree : FnScope ["value", "word"] ["value"] (defScope sIsThree) := ⟨rfl, rfl, rfl, by decide +kernel, rfl, by decide +kernel, by decide +kernel⟩
abbrev ThreeArg : Hp → List V → Prop := fun H vs => ∃ t x y z, vs = [.ref t] ∧ H t = some (.tup [.str x, .str y, .str z]) ∧ WordOk x ∧ WordOk y ∧ WordOk z
theorem ok_isthree {fW : Addr} {fdW : FuncData} (F : FnP K "_is_three_of_words" sIsThree f fd) (T : Nm mg) (T6 : Nm6 mg) (GW : FnOk P w K mg base CX0 1 fW fdW ["value"] (spYes fun _ vs => ∃ z, vs = [.str z] ∧ WordOk z)) (bW : Binds K fdW ["value"] []) (kW : PySem.W.keepIn K (.ref fW) = true) (gW : mg "is_word" = some (.ref fW)) :
    FnOk P w K mg base CX0 2 f fd ["value"] (spYes ThreeArg) := by
  refine F.ok scIsThree (fun vs H Q E h => ?_) (fun cdv A outer s H vs Q E hr h => ?_)
  · obtain ⟨⟨t, x, y, z, rfl, _⟩, _⟩ := h
    rfl
  · obtain ⟨⟨t, x, y, z, rfl, ht, hx, hy, hz⟩, k⟩ := h
    refine ⟨_, PSs.nox (pss_one (ps_ret (pe_and (pe_callB call_isi (by rfl) T6.isi (by decide +kernel) (pa_cons (pv 0) (pa_cons (pe_bltn (v := .ty "tuple") (u := .type "tuple") (by rfl) T6.tuple (by decide +kernel) rfl) pa_nil)))
      (pe_and (pe_cmpR op_eq (pe_callB call_len (by rfl) T.len PySem.boot_len (pa_cons (pv 0) pa_nil)) pe_int (nomark _))
      (pe_one (pe_callB (cr_all rfl) (by rfl) T6.all (by decide +kernel) (pa_cons (pe_lc (own := [("word", 1)]) (g := gName 1) (tt := tYes) rfl scIsThree.nd (pi_tup (pv 0)) (blkOk_by (own := [("word", 1)]) (N := ["value", "word"]) (sc := defScope sIsThree) (by decide +kernel))
        (fun _ _ _ _ _ => pg_name (i := 1) scIsThree.nd rfl (Or.inl rfl)) (fun _ _ _ _ _ => pts_nil) (fun _ _ _ _ _ => pe_call GW hr rfl gW kW bW .nil pass0 (pa_cons (pv 1) pa_nil))) pa_nil))))))), ?_⟩
    refine ⟨_, rfl, _, _, .type "tuple", _, true, rfl, .ty _, .base (.tup ht), kit_ty (by decide +kernel), true, rfl, ?_⟩
    refine iteT ?_
    refine ⟨_, rfl, _, 3, rfl, Or.inr ⟨_, SqT.of ht, rfl⟩, rfl, true, rfl, ?_⟩
    refine iteT ?_
    refine ⟨_, rfl, t, rfl, ⟨_, SqT.of ht⟩, fun D hD => ?_⟩
    refine lc_tup (K := K) (a := t) (xs := [V.str x, V.str y, V.str z]) (fun i Hx => Hx D = some (.lst ((List.replicate i true).map V.bl)) ∧ Same H Hx) ⟨upd_same, same_new hD⟩ (fun i Hx _ q => SqT.of (q.2 _ _ ht)) ?_ ?_
    · rintro i v Hx hv ⟨q1, q2⟩
      have hi : i < 3 := (List.getElem?_eq_some_iff.mp hv).1
      obtain ⟨c, rfl, hc⟩ : ∃ c, v = V.str c ∧ WordOk c := by
        have := List.mem_of_getElem? hv
        simp only [List.mem_cons, List.not_mem_nil, or_false] at this
        rcases this with rfl | rfl | rfl
        · exact ⟨x, rfl, hx⟩
        · exact ⟨y, rfl, hy⟩
        · exact ⟨z, rfl, hz⟩
      refine ⟨rfl, ?_⟩
      refine ⟨_, rfl, ⟨c, rfl, hc⟩, fun H5 s5 => ⟨_, s5 _ _ q1, ?_, ?_, fun b o e => (upd_ne (ne_of_none e hD)).trans (s5 _ _ (q2 _ _ e))⟩⟩
      · rw [List.length_map, List.length_replicate]
        exact len_ok (by omega)
      · rw [upd_same, List.replicate_succ', List.map_append]
        rfl
    · rintro Hx ⟨q1, q2⟩
      refine ⟨D, List.replicate 3 true, rfl, SqL.of q1, ?_⟩
      rw [all_rep]
      exact k _ q2
theorem scIsRow : FnScope ["marks", "width", "value", "mark"] ["marks", "width", "value"] (defScope sIsRow) := ⟨rfl, rfl, rfl, by decide +kernel, rfl, by decide +kernel, by decide +kernel⟩
abbrev RowArg : Hp → List V → Prop := fun H vs => ∃ (a t : Addr) (n : Int) (ms zs : List Str), vs = [.ref a, .int n, .ref t] ∧ H a = some (.lst (ms.map V.str)) ∧ RowAt H t zs ∧ (zs.length : Int) = n ∧ zs.length ≤ 1000 ∧ ∀ z ∈ zs, z ∈ ms
theorem ok_isrow (F : FnP K "is_row" sIsRow f fd) (T : Nm mg) (T6 : Nm6 mg) : FnOk P w K mg base CX0 1 f fd ["marks", "width", "value"] (spYes RowArg) := by
  refine F.ok scIsRow (fun vs H Q E h => ?_) (fun cdv A outer s H vs Q E hr h => ?_)
  · obtain ⟨⟨a, t, n, ms, zs, rfl, _⟩, _⟩ := h
    rfl
  · obtain ⟨⟨a, t, n, ms, zs, rfl, ha, ht, hn, few, hz⟩, k⟩ := h
    refine ⟨_, PSs.nox (pss_one (ps_ret (pe_and (pe_callB call_isi (by rfl) T6.isi (by decide +kernel) (pa_cons (pv 2) (pa_cons (pe_bltn (v := .ty "tuple") (u := .type "tuple") (by rfl) T6.tuple (by decide +kernel) rfl) pa_nil)))
      (pe_and (pe_cmpR op_eq (pe_callB call_len (by rfl) T.len PySem.boot_len (pa_cons (pv 2) pa_nil)) (pv 1) (nomark _))
      (pe_one (pe_callB (cr_all rfl) (by rfl) T6.all (by decide +kernel) (pa_cons (pe_lc (own := [("mark", 3)]) (g := gName 3) (tt := tYes) (te := tOp (rIn K false) (tVar 3) (tVar 0)) rfl scIsRow.nd (pi_tup (pv 2)) (blkOk_by (own := [("mark", 3)]) (N := ["marks", "width", "value", "mark"]) (sc := defScope sIsRow) (by decide +kernel))
        (fun _ _ _ _ _ => pg_name (i := 3) scIsRow.nd rfl (Or.inl rfl)) (fun _ _ _ _ _ => pts_nil) (fun _ _ _ _ _ => pe_cmpR op_in_seq (pv 3) (pv 0) (by rfl))) pa_nil))))))), ?_⟩
    refine ⟨_, rfl, _, _, .type "tuple", _, true, rfl, .ty _, .base (.tup ht), kit_ty (by decide +kernel), true, rfl, ?_⟩
    refine iteT ?_
    refine ⟨_, rfl, _, (zs.map V.str).length, rfl, Or.inr ⟨_, SqT.of ht, rfl⟩, _, rfl, rfl, true, ?_, ?_⟩
    · rw [List.length_map, hn]
      exact bl_self _
    refine iteT ?_
    refine ⟨_, rfl, t, rfl, ⟨_, SqT.of ht⟩, fun D hD => ?_⟩
    refine lc_tup (K := K) (a := t) (xs := zs.map V.str) (fun i Hx => Hx D = some (.lst ((List.replicate i true).map V.bl)) ∧ Same H Hx) ⟨upd_same, same_new hD⟩ (fun i Hx _ q => SqT.of (q.2 _ _ ht)) ?_ ?_
    · rintro i v Hx hv ⟨q1, q2⟩
      rw [List.getElem?_map] at hv
      obtain ⟨c, ec, rfl⟩ := Option.map_eq_some_iff.mp hv
      have hi : i < zs.length := (List.getElem?_eq_some_iff.mp ec).1
      refine ⟨rfl, ?_⟩
      refine ⟨_, rfl, _, rfl, a, ms.map V.str, rfl, .inl (SqL.of (q2 _ _ ha)), rfl, flat_strs' ms, ?_⟩
      have e1 : (V.bl (if false = true then !inV (V.str c) (ms.map V.str) else inV (V.str c) (ms.map V.str))) = V.bl true := by
        show V.bl (inV (V.str c) (ms.map V.str)) = _
        rw [inV_str, decide_eq_true (hz c (List.mem_of_getElem? ec))]
      rw [e1]
      refine ⟨_, q1, ?_, ?_, fun b o e => (upd_ne (ne_of_none e hD)).trans (q2 _ _ e)⟩
      · rw [List.length_map, List.length_replicate]
        exact len_ok (by omega)
      · rw [upd_same, List.replicate_succ', List.map_append]
        rfl
    · rintro Hx ⟨q1, q2⟩
      refine ⟨D, List.replicate (zs.map V.str).length true, rfl, SqL.of q1, ?_⟩
      rw [all_rep]
      exact k _ q2
theorem scThreeRows : FnScope ["marks", "value", "row"] ["marks", "value"] (defScope sThreeRows) := ⟨rfl, rfl, rfl, by decide +kernel, rfl, by decide +kernel, by decide +kernel⟩
/-- three rows over the marks -/
def RowsOk (H : Hp) (t : Addr) (ms xs ys zs : List Str) : Prop := (∃ r1 r2 r3 : Addr, H t = some (.tup [.ref r1, .ref r2, .ref r3]) ∧ RowAt H r1 xs ∧ RowAt H r2 ys ∧ RowAt H r3 zs) ∧ ys.length = xs.length ∧ zs.length = xs.length ∧ 1 ≤ xs.length ∧ xs.length ≤ 1000 ∧ (∀ z ∈ xs, z ∈ ms) ∧ (∀ z ∈ ys, z ∈ ms) ∧ ∀ z ∈ zs, z ∈ ms
theorem RowsOk.to {H H' : Hp} {t : Addr} {ms xs ys zs : List Str} (h : RowsOk H t ms xs ys zs) (s : Same H H') : RowsOk H' t ms xs ys zs := by
  obtain ⟨⟨r1, r2, r3, h0, h1, h2, h3⟩, r⟩ := h
  exact ⟨⟨r1, r2, r3, s _ _ h0, s _ _ h1, s _ _ h2, s _ _ h3⟩, r⟩
abbrev RowsArg : Hp → List V → Prop := fun H vs => ∃ (a t : Addr) (ms xs ys zs : List Str), vs = [.ref a, .ref t] ∧ H a = some (.lst (ms.map V.str)) ∧ RowsOk H t ms xs ys zs
theorem ok_threerows {fR : Addr} {dR : FuncData} (F : FnP K "_are_three_rows" sThreeRows f fd) (T : Nm mg) (T6 : Nm6 mg) (GR : FnOk P w K mg base CX0 1 fR dR ["marks", "width", "value"] (spYes RowArg)) (bR : Binds K dR ["marks", "width", "value"] []) (kR : PySem.W.keepIn K (.ref fR) = true) (gR : mg "is_row" = some (.ref fR)) :
    FnOk P w K mg base CX0 2 f fd ["marks", "value"] (spYes RowsArg) := by
  refine F.ok scThreeRows (fun vs H Q E h => ?_) (fun cdv A outer s H vs Q E hr h => ?_)
  · obtain ⟨⟨a, t, ms, xs, ys, zs, rfl, _⟩, _⟩ := h
    rfl
  · obtain ⟨⟨a, t, ms, xs, ys, zs, rfl, ha, ⟨r1, r2, r3, ht, h1, h2, h3⟩, e2, e3, one, few, m1, m2, m3⟩, k⟩ := h
    refine ⟨_, PSs.nox (pss_cons (ps_if (PW.pt (pw_or (pt_not (pt_val (pe_callB call_isi (by rfl) T6.isi (by decide +kernel) (pa_cons (pv 1) (pa_cons (pe_bltn (v := .ty "tuple") (u := .type "tuple") (by rfl) T6.tuple (by decide +kernel) rfl) pa_nil)))))
          (pw_or1 (pt_cmpR op_ne (pe_callB call_len (by rfl) T.len PySem.boot_len (pa_cons (pv 1) pa_nil)) pe_int (nomark _))))) (pss_one (ps_ret pe_bl)) pss_nil)
      (pss_cons (ps_if (PW.pt (pw_or (pt_not (pt_val (pe_callB call_isi (by rfl) T6.isi (by decide +kernel) (pa_cons (pe_ix ix_tup (pv 1) pe_int (fun _ _ => rfl)) (pa_cons (pe_bltn (v := .ty "tuple") (u := .type "tuple") (by rfl) T6.tuple (by decide +kernel) rfl) pa_nil)))))
          (pw_or1 (pt_not (pt_truth (pe_ix ix_tup (pv 1) pe_int (fun _ _ => rfl)) (by intro _; rfl)))))) (pss_one (ps_ret pe_bl)) pss_nil)
      (pss_one (ps_ret (pe_callB (cr_all rfl) (by rfl) T6.all (by decide +kernel) (pa_cons (pe_lc (own := [("row", 2)]) (g := gName 2) (tt := tYes) (te := tCall (spYes RowArg) [] E0 (tCons (tVar 0) (tCons (tCB (rLen K) (tCons (tOp (rIxT K) (tVar 1) (tC (.int 0))) tNil)) (tCons (tVar 2) tNil)))) rfl scThreeRows.nd (pi_tup (pv 1)) (blkOk_by (own := [("row", 2)]) (N := ["marks", "value", "row"]) (sc := defScope sThreeRows) (by decide +kernel))
        (fun _ _ _ _ _ => pg_name (i := 2) scThreeRows.nd rfl (Or.inl rfl)) (fun _ _ _ _ _ => pts_nil) (fun _ _ _ _ _ => pe_call GR hr rfl gR kR bR .nil pass0 (pa_cons (pv 0) (pa_cons (pe_callB call_len (by rfl) T.len PySem.boot_len (pa_cons (pe_ix ix_tup (pv 1) pe_int (fun _ _ => rfl)) pa_nil)) (pa_cons (pv 2) pa_nil))))) pa_nil)))))), ?_⟩
    have tl : atI [V.ref r1, V.ref r2, V.ref r3] 0 = some (.ref r1) := atI_nat (j := 0) rfl
    refine ⟨_, rfl, _, _, .type "tuple", _, true, rfl, .ty _, .base (.tup ht), kit_ty (by decide +kernel), _, rfl, ?_⟩
    refine iteF ?_
    refine ⟨_, rfl, _, 3, rfl, Or.inr ⟨_, SqT.of ht, rfl⟩, rfl, false, rfl, ?_⟩
    refine iteF ?_
    refine ⟨_, rfl, t, _, _, _, rfl, rfl, SqT.of ht, tl, _, _, .type "tuple", _, true, rfl, .ty _, .base (.tup h1), kit_ty (by decide +kernel), _, rfl, ?_⟩
    refine iteF ?_
    refine ⟨_, rfl, t, _, _, _, rfl, rfl, SqT.of ht, tl, true, .inr (.inl ⟨xs.map V.str, SqT.of h1, ?_⟩), ?_⟩
    · cases xs with
      | nil => exact absurd one (by decide)
      | cons x xs => rfl
    refine iteF ?_
    refine ⟨_, rfl, t, rfl, ⟨_, SqT.of ht⟩, fun D hD => ?_⟩
    refine lc_tup (K := K) (a := t) (xs := [V.ref r1, V.ref r2, V.ref r3]) (fun i Hx => Hx D = some (.lst ((List.replicate i true).map V.bl)) ∧ Same H Hx) ⟨upd_same, same_new hD⟩ (fun i Hx _ q => SqT.of (q.2 _ _ ht)) ?_ ?_
    · rintro i v Hx hv ⟨q1, q2⟩
      have hi : i < 3 := (List.getElem?_eq_some_iff.mp hv).1
      obtain ⟨r, rs, rfl, hr1, hr2, hr3⟩ : ∃ r rs, v = V.ref r ∧ RowAt H r rs ∧ rs.length = xs.length ∧ ∀ z ∈ rs, z ∈ ms := by
        have := List.mem_of_getElem? hv
        simp only [List.mem_cons, List.not_mem_nil, or_false] at this
        rcases this with rfl | rfl | rfl
        · exact ⟨r1, xs, rfl, h1, rfl, m1⟩
        · exact ⟨r2, ys, rfl, h2, e2, m2⟩
        · exact ⟨r3, zs, rfl, h3, e3, m3⟩
      refine ⟨rfl, ?_⟩
      refine ⟨_, rfl, _, rfl, t, _, _, _, rfl, rfl, SqT.of (q2 _ _ ht), tl, _, (xs.map V.str).length, rfl, Or.inr ⟨_, SqT.of (q2 _ _ h1), rfl⟩, _, rfl, ⟨a, r, _, ms, rs, rfl, q2 _ _ ha, q2 _ _ hr1, ?_, by omega, hr3⟩, fun H5 s5 => ⟨_, s5 _ _ q1, ?_, ?_, fun b o e => (upd_ne (ne_of_none e hD)).trans (s5 _ _ (q2 _ _ e))⟩⟩
      · rw [List.length_map, hr2]
      · rw [List.length_map, List.length_replicate]
        exact len_ok (by omega)
      · rw [upd_same, List.replicate_succ', List.map_append]
        rfl
    · rintro Hx ⟨q1, q2⟩
      refine ⟨D, List.replicate 3 true, rfl, SqL.of q1, ?_⟩
      rw [all_rep]
      exact k _ q2
theorem scGift : FnScope ["way", "first", "second", "third", "three"] ["way", "first", "second", "third"] (defScope sGift) := ⟨rfl, rfl, rfl, by decide +kernel, rfl, by decide +kernel, by decide +kernel⟩
def spGift : Sp := fun vs H Q _ => ∃ (d a b c : Addr) (m : List (List Key × V)) (xs ys zs : List Str), vs = [.ref d, .ref a, .ref b, .ref c] ∧ H d = some (.dT m) ∧ RowAt H a xs ∧ RowAt H b ys ∧ RowAt H c zs ∧ ys.length = xs.length ∧ zs.length = xs.length ∧ xs.length ≤ 1000 ∧
  (∀ x ∈ xs, ∀ y ∈ ys, ∀ z ∈ zs, ∃ v, valV m [Sum.inr x, Sum.inr y, Sum.inr z] = some v) ∧ ∀ (T : Addr) (H' : Hp), H T = none → H' T = some (.tup (giftL m xs ys zs)) → Same H H' → Q (.ref T) H'
theorem ok_gift (F : FnP K "_gift" sGift f fd) (T6 : Nm6 mg) : FnOk P w K mg base CX0 1 f fd ["way", "first", "second", "third"] spGift := by
  refine F.ok scGift (fun vs H Q E h => ?_) (fun cdv A outer s H vs Q E hr h => ?_)
  · obtain ⟨d, a, b, c, m, xs, ys, zs, rfl, _⟩ := h
    rfl
  · obtain ⟨d, a, b, c, m, xs, ys, zs, rfl, hd, ha, hb, hc, e2, e3, few, hv, k⟩ := h
    have hu := hu_of hr
    refine ⟨_, PSs.nox (pss_one (ps_ret (pe_callTy call_tuple_of (by rfl) T6.tuple (by decide +kernel) (pa_cons (pe_lc (own := [("three", 4)]) (g := gName 4) (tt := tYes) (te := tDGet (tVar 0) (tVar 4)) rfl scGift.nd (pi_zip3 (by rfl) T6.zip (pa_cons (pv 1) (pa_cons (pv 2) (pa_cons (pv 3) pa_nil)))) (blkOk_by (own := [("three", 4)]) (N := ["way", "first", "second", "third", "three"]) (sc := defScope sGift) (by decide +kernel))
        (fun _ _ _ _ _ => pg_name (i := 4) scGift.nd rfl (Or.inl rfl)) (fun _ _ _ _ _ => pts_nil) (fun _ _ _ _ _ => pe_dget hu (pv 0) (pv 4) (fun _ _ => rfl))) pa_nil)))), ?_⟩
    refine ⟨_, rfl, _, rfl, _, rfl, a, b, c, _, _, _, rfl, SqT.of ha, SqT.of hb, SqT.of hc, fun D hD => ?_⟩
    refine lc_it (walk_zip3 (xs := xs.map V.str) (ys := ys.map V.str) (ws := zs.map V.str) (n := xs.length) (List.length_map _) (by rw [List.length_map, e2]) (by rw [List.length_map, e3])) (fun i Hx => Hx D = some (.lst (giftL m (xs.take i) (ys.take i) (zs.take i))) ∧ Same H Hx) ?_ ?_ ?_ ?_
    · exact ⟨upd_same, same_new hD⟩
    · exact fun i Hx _ q => ⟨SqT.of (q.2 _ _ ha), SqT.of (q.2 _ _ hb), SqT.of (q.2 _ _ hc)⟩
    · rintro i v Hx H4 hi ⟨q1, q2⟩ ⟨t, x', y', z', rfl, nt, rfl, ex', ey', ez'⟩
      obtain ⟨x, ex, rfl⟩ : ∃ x, xs[i]? = some x ∧ V.str x = x' := by
        rw [List.getElem?_map] at ex'
        exact Option.map_eq_some_iff.mp ex'
      obtain ⟨y, ey, rfl⟩ : ∃ x, ys[i]? = some x ∧ V.str x = y' := by
        rw [List.getElem?_map] at ey'
        exact Option.map_eq_some_iff.mp ey'
      obtain ⟨z, ez, rfl⟩ : ∃ x, zs[i]? = some x ∧ V.str x = z' := by
        rw [List.getElem?_map] at ez'
        exact Option.map_eq_some_iff.mp ez'
      obtain ⟨v, gv⟩ := hv x (List.mem_of_getElem? ex) y (List.mem_of_getElem? ey) z (List.mem_of_getElem? ez)
      have st := same_new (o := .tup [V.str x, V.str y, V.str z]) nt
      refine ⟨rfl, ?_⟩
      refine ⟨_, rfl, _, rfl, d, v, rfl, ?_, _, st _ _ q1, ?_, ?_, fun b o e => (upd_ne (ne_of_none e hD)).trans (st _ _ (q2 _ _ e))⟩
      · have := DGet.t (k := [Sum.inr x, Sum.inr y, Sum.inr z]) (st _ _ (q2 _ _ hd)) (upd_same (H := Hx) (a := t) (o := .tup [V.str x, V.str y, V.str z]))
        rw [gv] at this
        exact this
      · rw [giftL_len m _ _ _ i (by rw [List.length_take]; omega) (by rw [List.length_take]; omega) (by rw [List.length_take]; omega)]
        exact len_ok (by omega)
      · rw [upd_same, giftL_more m xs ys zs i x y z ex ey ez, gv]
        rfl
    · rintro Hx ⟨q1, q2⟩
      rw [List.take_length, List.take_of_length_le (by omega), List.take_of_length_le (by omega)] at q1
      refine ⟨D, _, rfl, .inl ⟨SqL.of q1, fun T nT => ?_⟩⟩
      have nT0 : H T = none := by
        cases e : H T with
        | none => rfl
        | some o =>
          rw [q2 _ _ e] at nT
          cases nT
      exact k T _ nT0 upd_same fun b o e => same_new nT _ _ (q2 _ _ e)
end
end Yt

set_option Elab.async false
set_option linter.all false
set_option maxRecDepth 100000
set_option maxHeartbeats 2000000
namespace Yt
open PySem PySem.Spec PyProof.Rows L2
abbrev sMarksOf : Stmt := top 32
abbrev sGiftOf : Stmt := top 31
theorem nodup_few {α : Type} : ∀ (l D : List α), l.Nodup → (∀ x ∈ l, x ∈ D) → l.length ≤ D.length
  | [], _, _, _ => Nat.zero_le _
  | x :: l, D, nd, sub => by
    obtain ⟨h1, h2⟩ := List.nodup_cons.mp nd
    obtain ⟨u, v, rfl⟩ := List.append_of_mem (sub x List.mem_cons_self)
    have := nodup_few l (u ++ v) h2 fun y hy => by
      have q := sub y (List.mem_cons_of_mem _ hy)
      rcases List.mem_append.mp q with q | q
      · exact List.mem_append_left _ q
      · rcases List.mem_cons.mp q with q | q
        · exact absurd (q ▸ hy) h1
        · exact List.mem_append_right _ q
    simp only [List.length_append, List.length_cons] at this ⊢
    omega
theorem perm_of_same {α : Type} : ∀ (l D : List α), l.Nodup → D.Nodup → (∀ x, x ∈ l ↔ x ∈ D) → l.Perm D
  | [], D, _, _, h => by
    cases D with
    | nil => exact .nil
    | cons y D => exact absurd ((h y).mpr List.mem_cons_self) (by simp)
  | x :: l, D, nd, nD, h => by
    obtain ⟨h1, h2⟩ := List.nodup_cons.mp nd
    obtain ⟨u, v, rfl⟩ := List.append_of_mem ((h x).mp List.mem_cons_self)
    have p : (u ++ x :: v).Perm (x :: (u ++ v)) := List.perm_middle
    have nuv := List.nodup_cons.mp (p.nodup_iff.mp nD)
    refine (List.Perm.cons x (perm_of_same l (u ++ v) h2 nuv.2 fun y => ⟨fun hy => ?_, fun hy => ?_⟩)).trans p.symm
    · have q := p.mem_iff.mp ((h y).mp (List.mem_cons_of_mem _ hy))
      rcases List.mem_cons.mp q with q | q
      · exact absurd (q ▸ hy) h1
      · exact q
    · have q := (h y).mpr (p.mem_iff.mpr (List.mem_cons_of_mem _ hy))
      rcases List.mem_cons.mp q with q | q
      · exact absurd (q ▸ hy) nuv.1
      · exact q
/-- there is a row for each mark that begins with it -/
theorem grow_first {ms : List Str} {x : Str} (h : x ∈ ms) : ([Sum.inr x, Sum.inr x, Sum.inr x] : List Key) ∈ growN ms 3 := by
  have put : ∀ {L : List (List Key)} {s : List Key} {c : Str}, s ∈ L → c ∈ ms → s ++ [Sum.inr c] ∈ grow ms L := fun hs hc => List.mem_flatMap.mpr ⟨_, hs, List.mem_map.mpr ⟨_, hc, rfl⟩⟩
  exact put (put (put (List.mem_singleton.mpr rfl) h) h) h
section
variable {P : Program} {w : World} {K : PySem.W.Frag} {mg : Str → Option Value} {base : Heap} {f : Addr} {fd : FuncData}
theorem scMarksOf : FnScope ["way", "marks", "three"] ["way"] (defScope sMarksOf) := ⟨rfl, rfl, rfl, by decide +kernel, rfl, by decide +kernel, by decide +kernel⟩
def spMarksOf : Sp := fun vs H Q _ => ∃ (d : Addr) (ms : List Str) (m : List (List Key × V)), vs = [.ref d] ∧ MarksOk ms ∧ WayIn H d ms m ∧ ∀ (L : Addr) (H' : Hp), H L = none → H' L = some (.lst (ms.map V.str)) → Same H H' → Q (.ref L) H'
theorem ok_marksof {fI fO : Addr} {dI dO : FuncData} (F : FnP K "_marks_of_way" sMarksOf f fd) (T : Nm mg) (T6 : Nm6 mg) (hso : mg "sorted" = none)
    (GI : FnOk P w K mg base CX0 2 fI dI ["value"] (spYes ThreeArg)) (bI : Binds K dI ["value"] []) (kI : PySem.W.keepIn K (.ref fI) = true) (gI : mg "_is_three_of_words" = some (.ref fI))
    (GO : FnOk P w K mg base CX0 2 fO dO ["marks", "value"] spWayB) (bO : Binds K dO ["marks", "value"] []) (kO : PySem.W.keepIn K (.ref fO) = true) (gO : mg "is_way_over" = some (.ref fO)) :
    FnOk P w K mg base CX0 3 f fd ["way"] spMarksOf := by
  refine F.ok scMarksOf (fun vs H Q E h => ?_) (fun cdv A outer s H vs Q E hr h => ?_)
  · obtain ⟨d, ms, m, rfl, _⟩ := h
    rfl
  · obtain ⟨d, ms, m, rfl, hm, hw, k⟩ := h
    refine ⟨_, PSs.nox (pss_cons (ps_if (pt_not (pt_val (pe_callB call_isi (by rfl) T6.isi (by decide +kernel) (pa_cons (pv 0) (pa_cons (pe_bltn (v := .ty "dict") (u := .type "dict") (by rfl) T6.dict (by decide +kernel) rfl) pa_nil))))) (pss_one ps_never) pss_nil)
      (pss_cons (ps_set (i := 1) scMarksOf.nd rfl (Or.inl rfl) (pe_callB (cr_sortK rfl) (by rfl) hso (by decide +kernel) (pa_cons (pe_lock (pe_sC (new := fun D => SetKO P w D []) (add := addK P w) (own := [("three", 2)]) (g := gName 2) (te := tOp (rIxT K) (tVar 2) (tC (.int 0))) (fun h G => setKO_ok (setK_fresh h)) addK_ok rfl scMarksOf.nd (pi_keys (pv 0)) (blkOk_by (own := [("three", 2)]) (N := ["way", "marks", "three"]) (sc := defScope sMarksOf) (by decide +kernel))
          (fun _ _ _ _ _ => pg_name (i := 2) scMarksOf.nd rfl (Or.inl rfl)) (fun _ _ _ _ _ => pts_one (pt_val (pe_call GI hr rfl gI kI bI .nil pass0 (pa_cons (pv 2) pa_nil)))) (fun _ _ _ _ _ => pe_ix ix_tup (pv 2) pe_int (fun _ _ => rfl)))) pa_nil)))
      (pss_cons (ps_if (PW.pt (pw_or (pt_not (pt_truth (pv 1) (by intro _; rfl))) (pw_or1 (pt_not (pt_val (pe_call GO hr rfl gO kO bO .nil pass0 (pa_cons (pv 1) (pa_cons (pv 0) pa_nil)))))))) (pss_one ps_never) pss_nil)
      (pss_one (ps_ret (pv 1)))))), ?_⟩
    refine ⟨_, rfl, _, _, .type "dict", _, true, rfl, .ty _, .base (.dT hw.1), kit_ty (by decide +kernel), _, rfl, ?_⟩
    refine iteF ?_
    refine ⟨d, .dT m, hw.1, trivial, fun od => ?_⟩
    refine ⟨_, rfl, d, od, rfl, .inr ⟨m, upd_same, fun D hD => ?_⟩⟩
    have nDd : D ≠ d := fun z => by
      rw [z, upd_same] at hD
      cases hD
    have kf : ∀ {i : Nat} {kk : List Key} {vv : V}, m[i]? = some (kk, vv) → kk ∈ growN ms 3 := fun e => hw.2.1.mem_iff.mp (List.mem_map.mpr ⟨_, List.mem_of_getElem? e, rfl⟩)
    refine sC_it (new := fun D => SetKO P w D []) (add := addK P w) (walk_keysT (d := d) (o := od) (kvs := m)) (fun i Hx => ∃ zs : List Str, Hx D = some (SetKO P w D (zs.map Sum.inr)) ∧ zs.Nodup ∧ (∀ z, z ∈ zs ↔ ∃ e ∈ m.take i, ∃ y z', e.1 = [Sum.inr z, Sum.inr y, Sum.inr z']) ∧ Same (upd H d (.frz od (.dT m))) Hx) ?_ ?_ ?_ ?_
    · exact ⟨[], upd_same, List.nodup_nil, fun z => by simp, same_new hD⟩
    · rintro i Hx hi ⟨zs, q1, nd, mem, q2⟩
      exact q2 _ _ upd_same
    · rintro i v Hx H7 hi ⟨zs, q1, nd, mem, q2⟩ ⟨rfl, kk, vv, q, ei, rfl, eq⟩
      obtain ⟨x, y, z, hx, hy, hz, rfl⟩ := grow3_form (kf ei)
      have et : m.take (i + 1) = m.take i ++ [([Sum.inr x, Sum.inr y, Sum.inr z], vv)] := by rw [List.take_add_one, ei] <;> rfl
      have fewz : zs.length ≤ ms.length := nodup_few zs ms nd fun u hu => by
        obtain ⟨e, he, y', z', ee⟩ := (mem u).mp hu
        obtain ⟨x2, y2, z2, hx2, _, _, e2⟩ := grow3_form (hw.2.1.mem_iff.mp (List.mem_map.mpr ⟨e, List.mem_of_mem_take he, rfl⟩))
        rw [ee] at e2
        cases e2
        exact hx2
      have m5 := hm.2.1
      refine ⟨rfl, ?_⟩
      refine ⟨_, rfl, ⟨q, x, y, z, rfl, eq, hm.2.2.2 x hx, hm.2.2.2 y hy, hm.2.2.2 z hz⟩, fun H8 s8 => ⟨true, rfl, ?_⟩⟩
      refine iteT ?_
      refine ⟨_, rfl, q, _, _, _, rfl, rfl, SqT.of (s8 _ _ eq), atI_nat (j := 0) rfl, Sum.inr x, zs.map Sum.inr, rfl, s8 _ _ q1, ?_, ?_⟩
      · rw [List.length_map]
        show zs.length + 1 < 4096
        omega
      · have sD : Same (upd H d (.frz od (.dT m))) (upd H8 D (SetKO P w D (putS (zs.map Sum.inr) (Sum.inr x)))) := fun b o e => (upd_ne (ne_of_none e hD)).trans (s8 _ _ (q2 _ _ e))
        by_cases hin : x ∈ zs
        · have e1 : putS (zs.map Sum.inr) (Sum.inr x) = zs.map Sum.inr := by
            unfold putS
            rw [if_pos (List.mem_map.mpr ⟨x, hin, rfl⟩)]
          rw [e1] at sD ⊢
          refine ⟨zs, upd_same, nd, fun u => ?_, sD⟩
          rw [mem u, et]
          refine ⟨fun ⟨e, he, r⟩ => ⟨e, List.mem_append_left _ he, r⟩, fun ⟨e, he, r⟩ => ?_⟩
          rcases List.mem_append.mp he with he | he
          · exact ⟨e, he, r⟩
          · obtain rfl := List.mem_singleton.mp he
            obtain ⟨y', z', ee⟩ := r
            cases ee
            exact (mem x).mp hin
        · have e1 : putS (zs.map Sum.inr) (Sum.inr x) = (zs ++ [x]).map Sum.inr := by
            unfold putS
            rw [if_neg (fun hq => by
              obtain ⟨u, hu, eu⟩ := List.mem_map.mp hq
              cases eu
              exact hin hu), List.map_append]
            rfl
          rw [e1] at sD ⊢
          refine ⟨zs ++ [x], upd_same, List.nodup_append.mpr ⟨nd, by simp, fun u hu b hb e => hin (by rw [List.mem_singleton.mp hb] at e; exact e ▸ hu)⟩, fun u => ?_, sD⟩
          rw [List.mem_append, mem u, et]
          refine ⟨fun h => ?_, fun ⟨e, he, r⟩ => ?_⟩
          · rcases h with ⟨e, he, r⟩ | h
            · exact ⟨e, List.mem_append_left _ he, r⟩
            · rw [List.mem_singleton.mp h]
              exact ⟨_, List.mem_append_right _ (List.mem_singleton.mpr rfl), y, z, rfl⟩
          · rcases List.mem_append.mp he with he | he
            · exact .inl ⟨e, he, r⟩
            · obtain rfl := List.mem_singleton.mp he
              obtain ⟨y', z', ee⟩ := r
              cases ee
              exact .inr (List.mem_singleton.mpr rfl)
    · rintro H6 ⟨zs, q6, nd, mem, s6⟩
      rw [List.take_length] at mem
      have nodm := hm.2.2.1.nodup
      have pz : zs.Perm ms := perm_of_same zs ms nd nodm fun u => by
        rw [mem u]
        refine ⟨fun ⟨e, he, y', z', ee⟩ => ?_, fun hu => ?_⟩
        · obtain ⟨x2, y2, z2, hx2, _, _, e2⟩ := grow3_form (hw.2.1.mem_iff.mp (List.mem_map.mpr ⟨e, he, rfl⟩))
          rw [ee] at e2
          cases e2
          exact hx2
        · obtain ⟨e, he, ee⟩ := List.mem_map.mp (hw.2.1.mem_iff.mpr (grow_first hu))
          exact ⟨e, he, u, u, ee⟩
      have m5 := hm.2.1
      refine ⟨s6 _ _ upd_same, D, zs, rfl, (upd_ne nDd).trans q6, by rw [pz.length_eq]; omega, fun ys p perm sorted np => ?_⟩
      have es : ys = ms := asc_uniq (asc_of (perm.nodup_iff.mpr nd) sorted) hm.2.2.1 (perm.trans pz)
      subst es
      have s1 : Same H (upd H6 d (.dT m)) := fun b o e => by
        by_cases hb : b = d
        · subst hb
          rw [hw.1] at e
          cases e
          exact upd_same
        · exact (upd_ne hb).trans (s6 _ _ ((upd_ne hb).trans e))
      have s2 : Same H (upd (upd H6 d (.dT m)) p (.lst (ys.map V.str))) := fun b o e => same_new np _ _ (s1 _ _ e)
      refine ⟨_, rfl, true, .inl ⟨ys.map V.str, SqL.of upd_same, ?_⟩, ?_⟩
      · have := hm.1
        cases ys with
        | nil => exact absurd this (by decide)
        | cons y ys => rfl
      refine iteF ?_
      refine ⟨_, rfl, _, rfl, ⟨p, d, ys, m, rfl, upd_same, hm, hw.to s2⟩, fun H9 s9 => ⟨true, rfl, ?_⟩⟩
      refine iteF ?_
      have np0 : H p = none := by
        cases e : H p with
        | none => rfl
        | some o =>
          rw [s1 _ _ e] at np
          cases np
      exact ⟨_, rfl, k p H9 np0 (s9 _ _ upd_same) fun b o e => s9 _ _ (s2 _ _ e)⟩
theorem scGiftOf : FnScope ["way", "rows", "marks", "first", "second", "third"] ["way", "rows"] (defScope sGiftOf) := ⟨rfl, rfl, rfl, by decide +kernel, rfl, by decide +kernel, by decide +kernel⟩
def spGiftOf : Sp := fun vs H Q _ => ∃ (d t : Addr) (ms xs ys zs : List Str) (m : List (List Key × V)), vs = [.ref d, .ref t] ∧ MarksOk ms ∧ WayIn H d ms m ∧ RowsOk H t ms xs ys zs ∧ ∀ (T : Addr) (H' : Hp), H T = none → H' T = some (.tup (giftL m xs ys zs)) → Same H H' → Q (.ref T) H'
theorem ok_giftof {fM fR fG : Addr} {dM dR dG : FuncData} (F : FnP K "gift_of" sGiftOf f fd)
    (GM : FnOk P w K mg base CX0 3 fM dM ["way"] spMarksOf) (bM : Binds K dM ["way"] []) (kM : PySem.W.keepIn K (.ref fM) = true) (gM : mg "_marks_of_way" = some (.ref fM))
    (GR : FnOk P w K mg base CX0 2 fR dR ["marks", "value"] (spYes RowsArg)) (bR : Binds K dR ["marks", "value"] []) (kR : PySem.W.keepIn K (.ref fR) = true) (gR : mg "_are_three_rows" = some (.ref fR))
    (GG : FnOk P w K mg base CX0 1 fG dG ["way", "first", "second", "third"] spGift) (bG : Binds K dG ["way", "first", "second", "third"] []) (kG : PySem.W.keepIn K (.ref fG) = true) (gG : mg "_gift" = some (.ref fG)) :
    FnOk P w K mg base CX0 4 f fd ["way", "rows"] spGiftOf := by
  refine F.ok scGiftOf (fun vs H Q E h => ?_) (fun cdv A outer s H vs Q E hr h => ?_)
  · obtain ⟨d, t, ms, xs, ys, zs, m, rfl, _⟩ := h
    rfl
  · obtain ⟨d, t, ms, xs, ys, zs, m, rfl, hm, hw, hR, k⟩ := h
    refine ⟨_, PSs.nox (pss_cons (ps_set (i := 2) scGiftOf.nd rfl (Or.inl rfl) (pe_call GM hr rfl gM kM bM .nil pass0 (pa_cons (pv 0) pa_nil)))
      (pss_cons (ps_if (pt_not (pt_val (pe_call GR (hr.mono (by decide)) rfl gR kR bR .nil pass0 (pa_cons (pv 2) (pa_cons (pv 1) pa_nil))))) (pss_one ps_never) pss_nil)
      (pss_cons (ps_asg (pv 1) (pg_tup rfl (pgs_cons (pg_name (i := 3) scGiftOf.nd rfl (Or.inl rfl)) (pgs_cons (pg_name (i := 4) scGiftOf.nd rfl (Or.inl rfl)) (pgs_cons (pg_name (i := 5) scGiftOf.nd rfl (Or.inl rfl)) pgs_nil)))))
      (pss_one (ps_ret (pe_call GG (hr.mono (by decide)) rfl gG kG bG .nil pass0 (pa_cons (pv 0) (pa_cons (pv 3) (pa_cons (pv 4) (pa_cons (pv 5) pa_nil)))))))))), ?_⟩
    refine ⟨_, rfl, d, ms, m, rfl, hm, hw, fun L H1 nL hL s1 => ?_⟩
    refine ⟨_, rfl, _, rfl, ⟨L, t, ms, xs, ys, zs, rfl, hL, hR.to s1⟩, fun H2 s2 => ⟨true, rfl, ?_⟩⟩
    refine iteF ?_
    have s12 : Same H H2 := fun b o e => s2 _ _ (s1 _ _ e)
    obtain ⟨⟨r1, r2, r3, h0, h1, h2, h3⟩, e2, e3, one, few, m1, m2, m3⟩ := hR.to s12
    refine ⟨_, rfl, t, _, rfl, SqT.of h0, rfl, _, _, rfl, _, _, rfl, _, _, rfl, rfl, ?_⟩
    refine ⟨_, rfl, _, rfl, _, rfl, _, rfl, d, r1, r2, r3, m, xs, ys, zs, rfl, (hw.to s12).1, h1, h2, h3, e2, e3, few, fun x hx y hy z hz => ?_, fun T H3 nT hT s3 => ?_⟩
    · have put : ∀ {L : List (List Key)} {s : List Key} {c : Str}, s ∈ L → c ∈ ms → s ++ [Sum.inr c] ∈ grow ms L := fun hs hc => List.mem_flatMap.mpr ⟨_, hs, List.mem_map.mpr ⟨_, hc, rfl⟩⟩
      have hk : ([Sum.inr x, Sum.inr y, Sum.inr z] : List Key) ∈ growN ms 3 := put (put (put (List.mem_singleton.mpr rfl) (m1 x hx)) (m2 y hy)) (m3 z hz)
      obtain ⟨⟨k0, v⟩, hmem, e0⟩ := List.mem_map.mp (hw.2.1.mem_iff.mpr hk)
      obtain ⟨j, ej⟩ := List.mem_iff_getElem?.mp hmem
      have e0 : k0 = [Sum.inr x, Sum.inr y, Sum.inr z] := e0
      subst e0
      exact ⟨v, valV_at (hw.2.1.nodup_iff.mpr (growN_nodup hm.2.2.1.nodup 3)) ej⟩
    · have nT0 : H T = none := by
        cases e : H T with
        | none => rfl
        | some o =>
          rw [s12 _ _ e] at nT
          cases nT
      exact k T H3 nT0 hT fun b o e => s3 _ _ (s12 _ _ e)
end
end Yt

set_option Elab.async false
set_option linter.all false
set_option maxRecDepth 100000
set_option maxHeartbeats 2000000
namespace Yt
open PySem PySem.Spec PyProof.Rows L2
abbrev sLawMaj : Stmt := top 47
/-- what a majority may give to a row -/
def MajV (ms : List Str) (k : List Key) (v : V) : Prop := (twK k ≠ .non → v = twK k) ∧ ∃ z ∈ ms, v = .str z
def spLawMaj : Sp := fun vs H Q _ => ∃ (p a : Addr) (ms : List Str) (f : Nat), vs = [.ref p, .ref a] ∧ a ≠ p ∧ H a = some (.lst (ms.map V.str)) ∧ MarksOk ms ∧ PurseAt H p (f + 125) ∧
  ∀ (L : Addr) (m : List (List Key × V)) (H' : Hp), H L = none → H' L = some (.dT m) → m.map (·.1) = growN ms 3 → (∀ e ∈ m, MajV ms e.1 e.2) → PurseAt H' p f → But p H H' → Q (.ref L) H'
section
variable {P : Program} {w : World} {K : PySem.W.Frag} {mg : Str → Option Value} {base : Heap} {f : Addr} {fd : FuncData}
theorem scLawMaj : FnScope ["_law_purse_here", "_law_marks_here", "_law_found", "_law_one", "_law_two", "_law_three"] ["_law_purse_here", "_law_marks_here"] (defScope sLawMaj) := ⟨rfl, rfl, rfl, by decide +kernel, rfl, by decide +kernel, by decide +kernel⟩
theorem ok_lawmaj {fT fO : Addr} {dT dO : FuncData} (F : FnP K "_law_majority" sLawMaj f fd)
    (GT : FnOk P w K mg base CX0 1 fT dT ["_law_marks_here"] (spThrees K)) (bT : Binds K dT ["_law_marks_here"] []) (kT : PySem.W.keepIn K (.ref fT) = true) (gT : mg "_law_threes" = some (.ref fT))
    (GO : FnOk P w K mg base CX0 3 fO dO ["_law_purse_here", "_law_some"] (spOne K)) (bO : Binds K dO ["_law_purse_here", "_law_some"] []) (kO : PySem.W.keepIn K (.ref fO) = true) (gO : mg "_law_one_of" = some (.ref fO)) :
    FnOk P w K mg base CX0 4 f fd ["_law_purse_here", "_law_marks_here"] spLawMaj := by
  refine F.ok scLawMaj (fun vs H Q E h => ?_) (fun cdv A outer s H vs Q E hr h => ?_)
  · obtain ⟨p, a, ms, g, rfl, _⟩ := h
    rfl
  · obtain ⟨p, a, ms, g, rfl, ap, ha, hm, hP, k⟩ := h
    have hu := hu_of hr
    refine ⟨_, PSs.nox (pss_cons (ps_set (i := 2) scLawMaj.nd rfl (Or.inl rfl) pe_dnewT)
      (pss_cons (ps_for PassesOwn.never rfl (pi_list (pe_call GT (hr.mono (by decide)) rfl gT kT bT .nil pass0 (pa_cons (pv 1) pa_nil))) (pg_tup rfl (pgs_cons (pg_name (i := 3) scLawMaj.nd rfl (Or.inl rfl)) (pgs_cons (pg_name (i := 4) scLawMaj.nd rfl (Or.inl rfl)) (pgs_cons (pg_name (i := 5) scLawMaj.nd rfl (Or.inl rfl)) pgs_nil))))
        (pss_one (ps_if (PW.pt (pw_or (pt_cmpR op_eq (pv 3) (pv 4) (nomark _)) (pw_or1 (pt_cmpR op_eq (pv 3) (pv 5) (nomark _)))))
          (pss_one (ps_dput hu (pv 2) (pe_tup (pa_cons (pv 3) (pa_cons (pv 4) (pa_cons (pv 5) pa_nil)))) (pv 3) rfl))
          (pss_one (ps_dput hu (pv 2) (pe_tup (pa_cons (pv 3) (pa_cons (pv 4) (pa_cons (pv 5) pa_nil)))) (pe_ifExp (pt_cmpR op_eq (pv 4) (pv 5) (nomark _)) (pv 4) (pe_call GO hr rfl gO kO bO .nil pass0 (pa_cons (pv 0) (pa_cons (pv 1) pa_nil)))) rfl)))))
      (pss_one (ps_ret (pv 2))))), ?_⟩
    have few : (growN ms 3).length ≤ 125 := by
      rw [growN_len]
      exact Nat.pow_le_pow_left hm.2.1 3
    have nd := growN_nodup hm.2.2.1.nodup 3
    have m0 := hm.1
    have m5 := hm.2.1
    refine fun L nL => ?_
    have sL := same_new (o := .dT []) nL
    have Lp : L ≠ p := fun q => by
      obtain ⟨o, e⟩ := hP.some
      rw [q, e] at nL
      cases nL
    refine ⟨_, rfl, a, ms, rfl, SqL.of (sL _ _ ha), hm.2.1, fun T ts H3 nT hT pT s3 => ?_⟩
    have hL3 := s3 _ _ (upd_same (H := H) (a := L) (o := .dT []))
    have LT : L ≠ T := fun q => by
      rw [← q, upd_same] at nT
      cases nT
    have Tp : T ≠ p := fun q => by
      obtain ⟨o, e⟩ := hP.some
      rw [q, sL _ _ e] at nT
      cases nT
    have tl : ts.length = (growN ms 3).length := Paired.length pT
    -- what stands still
    let Keep : Hp → Hp → Prop := fun A B => ∀ b o, b ≠ p → b ≠ L → A b = some o → B b = some o
    refine ⟨T, rfl, ⟨_, SqL.of hT⟩, for_list (K := K) (a := T) (xs := ts.map V.ref) (fun i σ Hc => ∃ (v3 v4 v5 : Option V) (m : List (List Key × V)), σ = [some (.ref p), some (.ref a), some (.ref L), v3, v4, v5] ∧ Hc L = some (.dT m) ∧ m.map (·.1) = (growN ms 3).take i ∧ (∀ e ∈ m, MajV ms e.1 e.2) ∧ PurseAt Hc p (g + (125 - i)) ∧ Keep H3 Hc)
      ⟨none, none, none, [], rfl, hL3, rfl, (fun e he => nomatch he), (hP.to fun o e => s3 _ _ (sL _ _ e)), fun b o _ _ e => e⟩ (fun i σ Hc _ ⟨_, _, _, _, _, _, _, _, _, z⟩ => SqL.of (z _ _ Tp LT.symm hT)) ?_ ?_⟩
    · rintro i u σ Hc hi ⟨v3, v4, v5, m, rfl, hL, hk, hv, hPc, hB⟩
      rw [List.getElem?_map] at hi
      obtain ⟨t, et, rfl⟩ := Option.map_eq_some_iff.mp hi
      obtain ⟨kk, ek, ht0⟩ := paired_at' pT et
      have il : i < 125 := by
        have ilt := (List.getElem?_eq_some_iff.mp ek).1
        omega
      obtain ⟨x, y, z, hx, hy, hz, rfl⟩ := grow3_form (List.mem_of_getElem? ek)
      have tp : t ≠ p := fun q => by
        obtain ⟨x', y', c', t', e, _⟩ := hP
        have e3 := s3 _ _ (sL _ _ e)
        have z : H3 t = some (.tup _) := ht0
        rw [q, e3] at z
        cases z
      have tL : t ≠ L := fun q => by
        have z : H3 t = some (.tup _) := ht0
        rw [q, hL3] at z
        cases z
      have ht : Hc t = some (.tup [V.str x, V.str y, V.str z]) := hB _ _ tp tL ht0
      have aL : a ≠ L := ne_of_none ha nL
      have hac := hB _ _ ap aL (s3 _ _ (sL _ _ ha))
      have ml : m.length = i := by
        have cl := congrArg List.length hk
        have ilt := (List.getElem?_eq_some_iff.mp ek).1
        rw [List.length_map, List.length_take] at cl
        omega
      have fin : ∀ (v : V) (Hd : Hp) (tk : Addr), Hd tk = none → Hd L = some (.dT m) → MajV ms [Sum.inr x, Sum.inr y, Sum.inr z] v → PurseAt Hd p (g + (125 - (i + 1))) → Keep H3 Hd →
          ∃ m', (upd (upd Hd tk (.tup [V.str x, V.str y, V.str z])) L (.dT (putK m [Sum.inr x, Sum.inr y, Sum.inr z] v))) L = some (.dT m') ∧ m'.map (·.1) = (growN ms 3).take (i + 1) ∧ (∀ e ∈ m', MajV ms e.1 e.2) ∧
            PurseAt (upd (upd Hd tk (.tup [V.str x, V.str y, V.str z])) L (.dT (putK m [Sum.inr x, Sum.inr y, Sum.inr z] v))) p (g + (125 - (i + 1))) ∧ Keep H3 (upd (upd Hd tk (.tup [V.str x, V.str y, V.str z])) L (.dT (putK m [Sum.inr x, Sum.inr y, Sum.inr z] v))) := by
        intro v Hd tk ntk hLd mv hPd hBd
        have et : (growN ms 3).take (i + 1) = (growN ms 3).take i ++ [[Sum.inr x, Sum.inr y, Sum.inr z]] := by rw [List.take_add_one, ek] <;> rfl
        have fresh : ([Sum.inr x, Sum.inr y, Sum.inr z] : List Key) ∉ m.map (·.1) := by
          rw [hk]
          intro q
          rw [← List.take_append_drop (i + 1) (growN ms 3), et] at nd
          exact (List.nodup_append.mp (List.nodup_append.mp nd).1).2.2 _ q _ (List.mem_singleton.mpr rfl) rfl
        have st := same_new (o := .tup [V.str x, V.str y, V.str z]) ntk
        refine ⟨_, upd_same, ?_, fun e he => ?_, hPd.to fun o e => (upd_ne Lp.symm).trans (st _ _ e), fun b o n1 n2 e => (upd_ne n2).trans (st _ _ (hBd _ _ n1 n2 e))⟩
        · rw [putK_new fresh, List.map_append, hk, et]
          rfl
        · rw [putK_new fresh] at he
          rcases List.mem_append.mp he with he | he
          · exact hv e he
          · rw [List.mem_singleton.mp he]
            exact mv
      have fewm : m.length < sizeLine := len_ok (by omega)
      have put : ∀ {Hd : Hp} {tk : Addr}, Hd tk = none → Hd L = some (.dT m) → ∀ v, DPut (upd Hd tk (.tup [V.str x, V.str y, V.str z])) L (.ref tk) v (upd (upd Hd tk (.tup [V.str x, V.str y, V.str z])) L (.dT (putK m [Sum.inr x, Sum.inr y, Sum.inr z] v))) := fun {Hd tk} ntk hLd v =>
        DPut.t (k := [Sum.inr x, Sum.inr y, Sum.inr z]) (same_new ntk _ _ hLd) upd_same fewm
      refine ⟨t, _, rfl, SqT.of ht, rfl, _, _, rfl, _, _, rfl, _, _, rfl, rfl, ?_⟩
      have hP1 : PurseAt Hc p (g + (125 - (i + 1))) := hPc.less (by omega)
      refine ⟨_, rfl, _, rfl, rfl, decide (x = y), dec_str x y, ?_⟩
      by_cases e1 : x = y
      · rw [decide_eq_true e1]
        refine iteT ?_
        have mv : MajV ms [Sum.inr x, Sum.inr y, Sum.inr z] (.str x) := ⟨fun _ => by show V.str x = twiceV x y z; simp [twiceV, e1], x, hx, rfl⟩
        refine ⟨_, rfl, _, rfl, _, rfl, _, rfl, _, rfl, (by show 3 ≤ sizeLine; decide), fun tk ntk => ⟨L, _, rfl, put ntk hL _, ?_⟩⟩
        obtain ⟨m', r⟩ := fin _ Hc tk ntk hL mv hP1 hB
        exact ⟨_, _, _, m', rfl, r⟩
      · rw [decide_eq_false e1]
        refine iteF ?_
        refine ⟨_, rfl, _, rfl, rfl, decide (x = z), dec_str x z, ?_⟩
        by_cases e2 : x = z
        · rw [decide_eq_true e2]
          refine iteT ?_
          have mv : MajV ms [Sum.inr x, Sum.inr y, Sum.inr z] (.str x) := ⟨fun _ => by show V.str x = twiceV x y z; simp [twiceV, e2], x, hx, rfl⟩
          refine ⟨_, rfl, _, rfl, _, rfl, _, rfl, _, rfl, (by show 3 ≤ sizeLine; decide), fun tk ntk => ⟨L, _, rfl, put ntk hL _, ?_⟩⟩
          obtain ⟨m', r⟩ := fin _ Hc tk ntk hL mv hP1 hB
          exact ⟨_, _, _, m', rfl, r⟩
        · rw [decide_eq_false e2]
          refine iteF ?_
          refine ⟨_, rfl, _, rfl, rfl, decide (y = z), dec_str y z, ?_⟩
          by_cases e3 : y = z
          · rw [decide_eq_true e3]
            refine iteT ?_
            have mv : MajV ms [Sum.inr x, Sum.inr y, Sum.inr z] (.str y) := ⟨fun _ => by
              show V.str y = twiceV x y z
              unfold twiceV
              rw [if_neg (by simp [e1, e2]), if_pos e3], y, hy, rfl⟩
            refine ⟨_, rfl, _, rfl, _, rfl, _, rfl, _, rfl, (by show 3 ≤ sizeLine; decide), fun tk ntk => ⟨L, _, rfl, put ntk hL _, ?_⟩⟩
            obtain ⟨m', r⟩ := fin _ Hc tk ntk hL mv hP1 hB
            exact ⟨_, _, _, m', rfl, r⟩
          · rw [decide_eq_false e3]
            refine iteF ?_
            have e5 : g + (125 - i) = (g + (125 - (i + 1))) + 1 := by omega
            rw [e5] at hPc
            refine ⟨_, rfl, _, rfl, p, a, _, ms.map V.str, rfl, hPc, SqL.of hac, ap, ⟨by rw [List.length_map]; omega, by rw [List.length_map]; omega⟩, fun j v Hd hj hPd hBd => ?_⟩
            rw [List.getElem?_map] at hj
            obtain ⟨c, ec, rfl⟩ := Option.map_eq_some_iff.mp hj
            have mv : MajV ms [Sum.inr x, Sum.inr y, Sum.inr z] (.str c) := ⟨fun hn => by
              exfalso
              refine hn ?_
              show twiceV x y z = V.non
              unfold twiceV
              rw [if_neg (by simp [e1, e2]), if_neg e3], c, List.mem_of_getElem? ec, rfl⟩
            have hLd := hBd _ _ Lp hL
            refine ⟨_, rfl, _, rfl, _, rfl, _, rfl, (by show 3 ≤ sizeLine; decide), fun tk ntk => ⟨L, _, rfl, put ntk hLd _, ?_⟩⟩
            obtain ⟨m', r⟩ := fin _ Hd tk ntk hLd mv hPd fun b o n1 n2 e => hBd _ _ n1 (hB _ _ n1 n2 e)
            exact ⟨_, _, _, m', rfl, r⟩
    · rintro σ Hc ⟨v3, v4, v5, m, rfl, hL, hk, hv, hPc, hB⟩
      rw [List.length_map, tl, List.take_length] at hk
      exact ⟨_, rfl, k L m Hc nL hL hk hv (hPc.less (by omega)) fun b o n e => hB _ _ n (ne_of_none e nL) (s3 _ _ (sL _ _ e))⟩
end
end Yt

set_option Elab.async false
set_option linter.all false
set_option maxRecDepth 100000
set_option maxHeartbeats 2000000
namespace Yt
open PySem PySem.Spec PyProof.Rows L2
abbrev sLawFree : Stmt := top 49
section
variable {X : Cx}
theorem pexW {e : Expr} {t t' : TE} (h : PE X e t) (k : ∀ σ H Q, t' σ H Q → t σ H Q) : PE X e t' := ⟨fun pins s σ H Q I q => h.run pins s σ H Q I (k σ H Q q)⟩
theorem ptsW {es : List Expr} {t t' : TT} (h : PTs X es t) (k : ∀ σ H Q, t' σ H Q → t σ H Q) : PTs X es t' := ⟨fun pins s σ H Q I q => h.run pins s σ H Q I (k σ H Q q)⟩
end
theorem three_len (x y z : Str) (v : V) : (mergeK [] [((Sum.inr x : Key), v), (Sum.inr y, v), (Sum.inr z, v)]).length = if isFree [Sum.inr x, Sum.inr y, Sum.inr z] = true then 3 else (if x = y ∧ x = z then 1 else 2) := by
  unfold isFree
  show _ = if decide (twiceV x y z = V.non) = true then _ else _
  unfold twiceV mergeK putK
  by_cases e1 : x = y
  · subst e1
    by_cases e2 : x = z
    · subst e2
      simp [putK]
    · simp [putK, e2]
  · by_cases e2 : x = z
    · subst e2
      simp [putK, e1, Ne.symm e1]
    · by_cases e3 : y = z
      · subst e3
        simp [putK, e1, e2]
      · simp [putK, e1, e2, e3]
theorem three_is (x y z : Str) (v : V) : decide (V.int (((mergeK [] [((Sum.inr x : Key), v), (Sum.inr y, v), (Sum.inr z, v)]).length : Nat) : Int) = V.int 3) = isFree [Sum.inr x, Sum.inr y, Sum.inr z] := by
  rw [three_len]
  cases h : isFree [Sum.inr x, Sum.inr y, Sum.inr z] with
  | true => simp
  | false =>
    simp only [Bool.false_eq_true, if_false]
    split <;> simp
/-- are the marks of the row unlike? -/
def tFree : TT := fun σ H Q => ∃ (a : V) (t : Addr) (x y z : Str), σ = [some a, some (.ref t), none] ∧ H t = some (.tup [.str x, .str y, .str z]) ∧ ∀ H', Same H H' → Q (isFree [Sum.inr x, Sum.inr y, Sum.inr z]) H'
section
variable {P : Program} {w : World} {K : PySem.W.Frag} {mg : Str → Option Value} {base : Heap} {f : Addr} {fd : FuncData}
theorem scLawFree : FnScope ["_law_marks_here", "_law_three", "_law_mark"] ["_law_marks_here"] (defScope sLawFree) := ⟨rfl, rfl, rfl, by decide +kernel, rfl, by decide +kernel, by decide +kernel⟩
theorem blkOk_free {N : List Str} {sc sc' scope : Scope} {own : List (Str × Nat)} (h : blkC N sc' scope own = true) (hf : (scope.names.all fun y => match y.2 with | .free => false | _ => true) = true) : BlkOk N sc scope own := by
  have b := blkOk_by h
  refine ⟨b.kind, b.uniq, b.ix, fun y hy e => ?_, b.own⟩
  have q := List.all_eq_true.mp hf y hy
  rw [e] at q
  cases q
theorem ok_lawfree {fT : Addr} {dT : FuncData} (F : FnP K "_law_free" sLawFree f fd) (T : Nm mg) (T6 : Nm6 mg)
    (GT : FnOk P w K mg base CX0 1 fT dT ["_law_marks_here"] (spThrees K)) (bT : Binds K dT ["_law_marks_here"] []) (kT : PySem.W.keepIn K (.ref fT) = true) (gT : mg "_law_threes" = some (.ref fT)) :
    FnOk P w K mg base CX0 2 f fd ["_law_marks_here"] (spFree K) := by
  refine F.ok scLawFree (fun vs H Q E h => ?_) (fun cdv A outer s H vs Q E hr h => ?_)
  · obtain ⟨a, ms, rfl, _⟩ := h
    rfl
  · obtain ⟨a, ms, rfl, hS, few5, k⟩ := h
    refine ⟨_, PSs.nox (pss_one (ps_ret (pe_lc (own := [("_law_three", 1)]) (g := gName 1) (tt := tFree) (te := tVar 1) rfl scLawFree.nd (pi_list (pe_call GT hr rfl gT kT bT .nil pass0 (pa_cons (pv 0) pa_nil))) (blkOk_by (own := [("_law_three", 1)]) (N := ["_law_marks_here", "_law_three", "_law_mark"]) (sc := defScope sLawFree) (by decide +kernel))
        (fun _ _ _ _ _ => pg_name (i := 1) scLawFree.nd rfl (Or.inl rfl))
        (fun _ _ _ _ _ => ptsW (pts_one (pt_cmpR op_eq (pe_callB call_lenD (by rfl) T.len PySem.boot_len (pa_cons (pe_callTy (call_dictP rfl) (by rfl) T6.dict (by decide +kernel) (pa_cons
            (pe_lc (own := [("_law_mark", 2)]) (g := gName 2) (tt := tYes) (te := tTup (tCons (tVar 2) (tCons (tC (.bl true)) tNil))) rfl scLawFree.nd (pi_tup (pv 1)) (blkOk_free (own := [("_law_mark", 2)]) (N := ["_law_marks_here", "_law_three", "_law_mark"]) (sc' := defScope sLawFree) (by decide +kernel) (by decide +kernel))
              (fun _ _ _ _ _ => pg_name (i := 2) scLawFree.nd rfl (Or.inl rfl)) (fun _ _ _ _ _ => pts_nil) (fun _ _ _ _ _ => pe_tup (pa_cons (pv 2) (pa_cons pe_bl pa_nil)))) pa_nil)) pa_nil)) pe_int (nomark _)))
          fun σ H Q hq => ?_)
        (fun _ _ _ _ _ => pv 1)))), ?_⟩
    · obtain ⟨u, t, x, y, z, rfl, ht, q⟩ := hq
      refine ⟨_, rfl, t, rfl, ⟨_, SqT.of ht⟩, fun D hD => ?_⟩
      refine lc_tup (a := t) (xs := [V.str x, V.str y, V.str z]) (fun i Hx => ∃ ps : List Addr, Hx D = some (.lst (ps.map V.ref)) ∧ Paired (fun p kv => p ≠ D ∧ Hx p = some (.tup [kV kv.1, kv.2])) ps (([x, y, z].take i).map fun c => ((Sum.inr c : Key), V.bl true)) ∧ Same H Hx) ⟨[], upd_same, .nil, same_new hD⟩ (fun i Hx _ ⟨_, _, _, q⟩ => SqT.of (q _ _ ht)) ?_ ?_
      · rintro i v Hx hv ⟨ps, q1, q2, q3⟩
        have xyz : [V.str x, V.str y, V.str z] = [x, y, z].map V.str := rfl
        rw [xyz, List.getElem?_map] at hv
        obtain ⟨c, ec, rfl⟩ := Option.map_eq_some_iff.mp hv
        have hi : i < 3 := (List.getElem?_eq_some_iff.mp ec).1
        refine ⟨rfl, ?_⟩
        refine ⟨_, rfl, (by show 2 ≤ sizeLine; decide), fun p np => ?_⟩
        have sp := same_new (o := .tup [V.str c, V.bl true]) np
        have pD : p ≠ D := fun e => by
          rw [e, q1] at np
          cases np
        have pl : ps.length ≤ 3 := by
          rw [Paired.length q2, List.length_map, List.length_take]
          simp only [List.length_cons, List.length_nil]
          omega
        refine ⟨_, sp _ _ q1, ?_, ps ++ [p], by rw [upd_same, List.map_append] <;> rfl, ?_, fun b o e => (upd_ne (ne_of_none e hD)).trans (sp _ _ (q3 _ _ e))⟩
        · rw [List.length_map]
          exact len_ok (by omega)
        · rw [List.take_add_one, ec, List.map_append]
          exact Paired.snoc (Paired.mapP q2 fun r kv h => ⟨h.1, (upd_ne h.1).trans (sp _ _ h.2)⟩) ⟨pD, (upd_ne pD).trans upd_same⟩
      · rintro Hx ⟨ps, q1, q2, q3⟩
        refine ⟨D, ps, [((Sum.inr x : Key), V.bl true), (Sum.inr y, V.bl true), (Sum.inr z, V.bl true)], rfl, SqL.of q1, Paired.mapP q2 fun r kv h => SqT.of h.2, fun d nd => ?_⟩
        refine ⟨d, _, rfl, upd_same, rfl, isFree [Sum.inr x, Sum.inr y, Sum.inr z], ?_, ?_⟩
        · rw [three_is]
        · exact q _ fun b o e => same_new nd _ _ (q3 _ _ e)
    refine ⟨_, rfl, a, ms, rfl, hS, few5, fun L ts H1 nL hL hT s1 => ⟨L, rfl, ⟨_, SqL.of hL⟩, fun D hD => ?_⟩⟩
    have few : (growN ms 3).length ≤ 125 := by
      rw [growN_len]
      exact Nat.pow_le_pow_left few5 3
    refine lc_list (K := K) (a := L) (xs := ts.map V.ref) (fun i Hx => ∃ rs : List Addr, Hx D = some (.lst (rs.map V.ref)) ∧ Paired (fun r kk => r ≠ D ∧ TupAt Hx r kk) rs (((growN ms 3).take i).filter isFree) ∧ Same H1 Hx) ⟨[], upd_same, .nil, same_new hD⟩ (fun i Hx _ ⟨_, _, _, z⟩ => SqL.of (z _ _ hL)) ?_ ?_
    · rintro i x Hx hx ⟨rs, q1, q2, q3⟩
      rw [List.getElem?_map] at hx
      obtain ⟨t, et, rfl⟩ := Option.map_eq_some_iff.mp hx
      obtain ⟨kk, ek, ht0⟩ := paired_at' hT et
      have ht := q3 _ _ ht0
      have tD : t ≠ D := ne_of_none ht0 hD
      obtain ⟨x, y, z, _, _, _, rfl⟩ := grow3_form (List.mem_of_getElem? ek)
      have et1 : (growN ms 3).take (i + 1) = (growN ms 3).take i ++ [[Sum.inr x, Sum.inr y, Sum.inr z]] := by rw [List.take_add_one, ek] <;> rfl
      refine ⟨rfl, ?_⟩
      refine ⟨_, t, x, y, z, rfl, ht, fun Hy sy => ?_⟩
      have qy := sy _ _ q1
      have q2y := Paired.mapP q2 fun r kk h => (⟨h.1, sy _ _ h.2⟩ : r ≠ D ∧ TupAt Hy r kk)
      have q3y : Same H1 Hy := fun b o e => sy _ _ (q3 _ _ e)
      cases hf : isFree [Sum.inr x, Sum.inr y, Sum.inr z] with
      | false =>
        refine iteF ⟨rs, qy, ?_, q3y⟩
        rw [et1, List.filter_append, List.filter_cons_of_neg (by rw [hf]; decide), List.filter_nil, List.append_nil]
        exact q2y
      | true =>
        refine iteT ?_
        have fl : rs.length ≤ 125 := by
          rw [Paired.length q2]
          have h1 := List.length_filter_le isFree ((growN ms 3).take i)
          rw [List.length_take] at h1
          omega
        refine ⟨_, rfl, _, qy, ?_, rs ++ [t], by rw [upd_same, List.map_append] <;> rfl, ?_, fun b o e => (upd_ne (ne_of_none e hD)).trans (q3y _ _ e)⟩
        · rw [List.length_map]
          exact len_ok (by omega)
        · rw [et1, List.filter_append, List.filter_cons_of_pos hf, List.filter_nil]
          exact Paired.snoc (Paired.mapP q2y fun r kk h => ⟨h.1, (upd_ne h.1).trans h.2⟩) ⟨tD, (upd_ne tD).trans (sy _ _ ht)⟩
    · rintro Hx ⟨rs, q1, q2, q3⟩
      rw [List.length_map, Paired.length hT, List.take_length] at q2
      have nD : H D = none := by
        cases e : H D with
        | none => rfl
        | some o =>
          rw [s1 _ _ e] at hD
          cases hD
      exact k D rs Hx nD q1 (Paired.mapP q2 fun r kk h => h.2) fun b o e => q3 _ _ (s1 _ _ e)
end
end Yt

set_option Elab.async false
set_option linter.all false
set_option maxRecDepth 100000
set_option maxHeartbeats 2000000
namespace Yt
open PySem PySem.Spec PyProof.Rows L2
/-! ### tuples that are known to have no dict of their own: their methods -/
/-- at t stands a tuple without a dict -/
def Bare (H : Hp) (t : Addr) (xs : List V) : Prop := ∃ o : Obj, o.cls = .type "tuple" ∧ o.dict = none ∧ H t = some (.frz o (.tup xs))
theorem Bare.to {H H' : Hp} {t : Addr} {xs : List V} (h : Bare H t xs) (k : ∀ o, H t = some o → H' t = some o) : Bare H' t xs := by
  obtain ⟨o, h1, h2, h3⟩ := h
  exact ⟨o, h1, h2, k _ h3⟩
theorem Bare.sq {K : PySem.W.Frag} {H : Hp} {t : Addr} {xs : List V} (h : Bare H t xs) : SqT K H t xs := by
  obtain ⟨o, h1, h2, h3⟩ := h
  exact .inl (.inr ⟨o, h3⟩)
section
variable {X : Cx}
/-- t + u: a new one is told to be bare where that is asked -/
def rCatB (K : PySem.W.Frag) : R2 := fun x y H Q => ∃ a b xs ys, x = .ref a ∧ y = .ref b ∧ SqT K H a xs ∧ SqT K H b ys ∧ xs.length + ys.length ≤ sizeLine ∧ ys ≠ [] ∧ (xs = [] → Q (.ref b) H) ∧
  (xs ≠ [] → (∀ p, H p = none → Q (.ref p) (upd H p (.tup (xs ++ ys)))) ∨ ∀ p H', H p = none → Same H H' → Bare H' p (xs ++ ys) → Q (.ref p) H')
theorem op_catB : OpR X (binaryOp .Add) (rCatB X.K) := by
  intro pins s σ H x y v u Q I rx ry h
  obtain ⟨a, b, xs, ys, rfl, rfl, ha, hb, hz, hy, q0, q1⟩ := h
  by_cases hx : xs = []
  · exact op_catA pins s σ H _ _ v u Q I rx ry ⟨a, b, xs, ys, rfl, rfl, ha, hb, hz, q0, fun h => absurd hx h, fun h => absurd hx h⟩
  · rcases q1 hx with q | q
    · exact op_catA pins s σ H _ _ v u Q I rx ry ⟨a, b, xs, ys, rfl, rfl, ha, hb, hz, q0, fun _ h => absurd h hy, fun _ _ => q⟩
    · cases rx
      cases ry
      obtain ⟨its, r1, p1, _⟩ := I.tuple ha
      obtain ⟨its2, r2, p2, _⟩ := I.tuple hb
      refine HT.cat_tup p1 p2 (fun z => hx (r1.nil_iff.mp z)) (fun z => absurd (r2.nil_iff.mp z) hy) (fun z => ?_) (by rw [← r1.length, ← r2.length]; exact hz)
      have new := Heap.get?_push_size s.heap (o := { cls := .type "tuple", data := .seq (its ++ its2).toArray }) rfl
      refine ⟨.ref s.heap.objs.size, upd H s.heap.objs.size (.frz { cls := .type "tuple", data := .seq (its ++ its2).toArray } (.tup (xs ++ ys))), I.laid (t' := s.toks) (fun b ob q => Heap.get?_push_of_some _ q) (Nat.le_refl _) ?_, rfl, q _ _ (I.hok.fresh (Nat.le_refl _)) (same_new (I.hok.fresh (Nat.le_refl _))) ⟨_, rfl, rfl, upd_same⟩⟩
      refine ⟨?_, ?_⟩
      · simpa using new
      · exact ⟨by rw [List.length_append]; exact hz, _, r1.append r2, IsTup.new _ _⟩
theorem count_same {z : Str} : ∀ {zs : List Str} {us : List Value}, Vals (zs.map V.str) us → us.countP (eqU (.str z)) = zs.countP fun u => decide (u = z)
  | [], _, .nil => rfl
  | y :: zs, _, .cons r t => by
    obtain ⟨tk, rfl⟩ := r
    rw [List.countP_cons, List.countP_cons, count_same t]
    have e : eqU (.str z) (.str y tk) = decide (y = z) := by
      show (y == z) = _
      by_cases q : y = z
      · simp [q]
      · rw [decide_eq_false q]
        exact beq_eq_false_iff_ne.mpr q
    rw [e]
/-- t.count(z), t bare -/
def tCountB (to : TE) (te : TA) : TE := fun σ H Q => to σ H fun x H1 => ∃ (t : Addr) (zs : List Str), x = .ref t ∧ Bare H1 t (zs.map V.str) ∧ te σ H1 fun ys H2 => ∃ z, ys = [.str z] ∧ Bare H2 t (zs.map V.str) ∧ Q (.int ((zs.countP fun u => decide (u = z) : Nat) : Int)) H2
variable {o e : Expr} {to : TE} {t : TA} {apos cpos : Pos}
theorem pe_countB (ho : PE X o to) (ha : PA X [e] t) (hbase : attributeBase o "count" X.env (eval o X.env) = eval o X.env := by rfl)
    (hfew : ((backTo cpos (starEach [e] X.env)).all (fun x => !x.1) && (backToKw cpos (keywordEach [] X.env)).all (fun x => x.1.isSome) && decide ([e].length + ([] : List Keyword).length + (if ([] : List Keyword).isEmpty then 0 else 1) < 30)) = true := by rfl)
    (hline : (apos.endLine == cpos.line) = true := by rfl) (hs : starEach [e] X.env = (false, eval e X.env) :: starEach [] X.env := by rfl) (hplain : (backTo cpos (starEach [] X.env)).any (·.1) = false := by rfl) :
    PE X (.Call (.Attribute o "count" apos) [e] [] cpos) (tCountB to t) := by
  refine ⟨fun pins s σ H Q I h => wpAny_Call_method_late hbase hfew hline rfl (thn (ho.run pins s σ H _ I h) fun v s1 ⟨x, H1, I1, r1, tt, zs, ex, hb, q1⟩ => ?_)⟩
  subst ex
  cases r1
  obtain ⟨ob, hc, hd, hf⟩ := hb
  have h1 := (I1.hok tt _ hf).1
  refine ⟨"tuple", "tuple.count", F.plainAttrs_tuple, F.slot_tuple_count, F.type_tuple_count, ⟨ob, h1, hc⟩, fun b eb => ?_, ?_⟩
  · injection eb with eb
    subst eb
    exact ⟨ob, h1, hd⟩
  have hA := ha.run cpos pins s1 σ H1 _ I1 q1
  rw [hs] at hA ⊢
  refine Calls.callWith_builtin (by show (false || (backTo cpos (starEach [] X.env)).any (·.1)) = false; rw [hplain] <;> rfl) (Calls.evalArgs_plain (thn hA fun us s2 ⟨vs, H2, I2, r2, z, ev, ⟨ob2, c2, d2, f2⟩, q2⟩ => ?_))
  subst ev
  obtain ⟨u, rfl, ru⟩ := vals1 r2
  obtain ⟨tk, rfl⟩ := ru
  obtain ⟨g2, hz, its, rv, hT⟩ := I2.hok tt _ f2
  obtain ⟨⟨cls, dd, dt, sl⟩, e2, c2', n, hdt⟩ := hT
  simp only at c2' hdt
  subst c2' hdt
  refine call_meets F.slot_tuple_count ⟨_, e2, rfl⟩ F.entry_tuple_count (F.args_tuple_count_2 _ _) (SeqAt.tuple_countAt tt its.toArray n dd sl (.str z tk) (eqU (.str z))) ⟨e2, fun y hy => ?_, ?_⟩
  · refine mem_eqAt (x := .str z) ⟨tk, rfl⟩ rfl rv ?_ y (by simpa using hy)
    exact flat_strs' zs
  · rw [show its.toArray.toList = its by simp, count_same rv]
    exact ⟨.int _, H2, I2.tok _, ⟨_, rfl⟩, q2⟩
/-- the statement runs where a bare tuple is told as any tuple -/
def tThaw (H0 : Hp) (t : TS) : TS := fun D σ H => ∃ d ob xs, H0 d = none ∧ H d = some (.frz ob (.tup xs)) ∧ t D σ (upd H d (.tup xs))
theorem ps_thaw {st : Stmt} {t : TS} (h : PS X st t) : PS X st (tThaw X.H_0 t) :=
  ⟨fun pins s σ H D I ⟨d, ob, xs, hn, e, hw⟩ => h.run pins s σ _ D (I.unlock e fun o' u' z => by rw [hn] at z; cases z) hw⟩
end
end Yt

set_option Elab.async false
set_option linter.all false
set_option maxRecDepth 100000
set_option maxHeartbeats 2000000
namespace Yt
open PySem PySem.Spec PyProof.Rows L2
/-! ### all rows of three once more: they are told to be bare -/
/-- as it stands behind so many turns -/
def At3 (H0 : Hp) (i : Nat) (H : Hp) (t : Addr) (k : List Key) : Prop := (i < 3 → TupAt H t k) ∧ (i = 3 → H0 t = none ∧ Bare H t (k.map kV))
theorem At3.low {H0 H : Hp} {i : Nat} {t : Addr} {k : List Key} (h : i < 3) (e : TupAt H t k) : At3 H0 i H t k := ⟨fun _ => e, fun q => by omega⟩
theorem At3.to {H0 H H' : Hp} {i : Nat} {t : Addr} {k : List Key} (h : At3 H0 i H t k) (s : ∀ o, H t = some o → H' t = some o) : At3 H0 i H' t k := ⟨fun q => s _ (h.1 q), fun q => ⟨(h.2 q).1, (h.2 q).2.to s⟩⟩
def spThreesB (K : PySem.W.Frag) : Sp := fun vs H Q _ => ∃ (a : Addr) (ms : List Str), vs = [.ref a] ∧ SqL K H a (ms.map V.str) ∧ ms.length ≤ 5 ∧
  ∀ (L : Addr) (ts : List Addr) (H' : Hp), H L = none → H' L = some (.lst (ts.map V.ref)) → Paired (fun t k => H t = none ∧ Bare H' t (k.map kV)) ts (growN ms 3) → Same H H' → Q (.ref L) H'
section
variable {P : Program} {w : World} {K : PySem.W.Frag} {mg : Str → Option Value} {base : Heap} {f : Addr} {fd : FuncData}
theorem ok_threesB (F : FnP K "_law_threes" sThrees f fd) (T : Nm mg) : FnOk P w K mg base CX0 1 f fd ["_law_marks_here"] (spThreesB K) := by
  refine F.ok scThrees (fun vs H Q E h => ?_) (fun cdv A outer s H vs Q E hr h => ?_)
  · obtain ⟨a, ms, rfl, _⟩ := h
    rfl
  · obtain ⟨a, ms, rfl, hS, few, k⟩ := h
    refine ⟨_, PSs.nox (pss_cons (ps_set (i := 1) scThrees.nd rfl (Or.inl rfl) (pe_lst (pa_cons (pe_tup pa_nil) pa_nil)))
      (pss_cons (ps_for PassesOwn.never rfl (pi_range1 rfl T.range (pa_cons pe_int pa_nil)) (pg_name (i := 2) scThrees.nd rfl (Or.inl rfl))
        (pss_cons (ps_set (i := 3) scThrees.nd rfl (Or.inl rfl) (pe_lst pa_nil))
        (pss_cons (ps_for PassesOwn.never rfl (pi_list (pv 1)) (pg_name (i := 4) scThrees.nd rfl (Or.inr rfl))
          (pss_one (ps_set (i := 3) scThrees.nd rfl (Or.inl rfl) (pe_op op_cat (pv 3) (pe_lc (own := [("_law_mark", 5)]) (g := gName 5) (tt := tYes) (te := tOp (rCatB K) (tVar 4) (tTup (tCons (tVar 5) tNil))) rfl scThrees.nd (pi_list (pv 0)) (blkOk_by (own := [("_law_mark", 5)]) (N := ["_law_marks_here", "_law_found", "_law_turn", "_law_longer", "_law_some", "_law_mark"]) (sc := defScope sThrees) (by decide +kernel))
            (fun _ _ _ _ _ => pg_name (i := 5) scThrees.nd rfl (Or.inl rfl)) (fun _ _ _ _ _ => pts_nil) (fun _ _ _ _ _ => pe_op op_catB (pv 4) (pe_tup (pa_cons (pv 5) pa_nil))))))))
        (pss_one (ps_set (i := 1) scThrees.nd rfl (Or.inl rfl) (pv 3))))))
      (pss_one (ps_ret (pv 1))))), ?_⟩
    have small5 : ∀ n, n ≤ 3 → (growN ms n).length ≤ 125 := fun n hn => by
      rw [growN_len]
      calc ms.length ^ n ≤ 5 ^ n := Nat.pow_le_pow_left few n
        _ ≤ 5 ^ 3 := Nat.pow_le_pow_right (by decide) hn
    have sz : ∀ {n : Nat}, n ≤ 1000 → n ≤ sizeLine := fun h => by
      rw [sizeLine_eq]
      omega
    refine ⟨(by show 0 ≤ sizeLine; decide), fun t0 nt0 => ⟨(by show 1 ≤ sizeLine; decide), fun L0 nL0 => ?_⟩⟩
    have s0 := same_new (o := .tup []) nt0
    have sL := same_new (o := .lst [V.ref t0]) nL0
    refine ⟨_, rfl, by decide, by decide, for_range (lo := 0) (n := 3) (fun i σ Hc => ∃ (v2 v3 v4 v5 : Option V) (L : Addr) (ts : List Addr), σ = [some (.ref a), some (.ref L), v2, v3, v4, v5] ∧ H L = none ∧ Hc L = some (.lst (ts.map V.ref)) ∧ Paired (At3 H i Hc) ts (growN ms i) ∧ Same H Hc)
      ⟨none, none, none, none, L0, [t0], rfl, ?_, upd_same, .cons (At3.low (by decide) (sL _ _ upd_same)) .nil, fun b o e => sL _ _ (s0 _ _ e)⟩ ?_ ?_⟩
    · cases e : H L0 with
      | none => rfl
      | some o =>
        rw [s0 _ _ e] at nL0
        cases nL0
    · rintro i σ Hc hi ⟨v2, v3, v4, v5, L, ts, rfl, nL, hL, hT, hH⟩
      have li := small5 i (by omega)
      have li1 := small5 (i + 1) (by omega)
      refine ⟨(by show 0 ≤ sizeLine; decide), fun G0 nG0 => ?_⟩
      have sG := same_new (o := .lst []) nG0
      have nGH : ∀ {q : Addr} {Hx : Hp}, Same H Hx → Hx q = none → H q = none := fun {q Hx} z e => by
        cases e2 : H q with
        | none => rfl
        | some o =>
          rw [z _ _ e2] at e
          cases e
      refine ⟨_, rfl, L, rfl, ⟨_, SqL.of (sG _ _ hL)⟩, for_list (K := K) (a := L) (xs := ts.map V.ref) (fun j σ Hd => ∃ (w2 w4 w5 : Option V) (G : Addr) (gs : List Addr), σ = [some (.ref a), some (.ref L), w2, some (.ref G), w4, w5] ∧ H G = none ∧ Hd G = some (.lst (gs.map V.ref)) ∧ Paired (At3 H (i + 1) Hd) gs (grow ms ((growN ms i).take j)) ∧ Same Hc Hd)
        ⟨some (.int (0 + i)), v4, v5, G0, [], rfl, nGH hH nG0, upd_same, .nil, sG⟩ (fun j σ Hd _ ⟨_, _, _, _, _, _, _, _, _, z⟩ => SqL.of (z _ _ hL)) ?_ ?_⟩
      · rintro j u σ Hd hj ⟨w2, w4, w5, G, gs, rfl, nG, hG, hgs, hD⟩
        obtain ⟨t, et, rfl⟩ : ∃ t, ts[j]? = some t ∧ V.ref t = u := by
          rw [List.getElem?_map] at hj
          exact Option.map_eq_some_iff.mp hj
        obtain ⟨sk, ek, ht⟩ := paired_at' hT et
        have hd1 : TupAt Hd t sk := hD _ _ (ht.1 hi)
        have etk : (growN ms i).take (j + 1) = (growN ms i).take j ++ [sk] := by rw [List.take_add_one, ek] <;> rfl
        have gl : gs.length = (grow ms ((growN ms i).take j)).length := Paired.length hgs
        have grl : (grow ms ((growN ms i).take j)).length + ms.length ≤ 130 := by
          rw [grow_len, List.length_take]
          have h1 : min j (growN ms i).length * ms.length ≤ (growN ms i).length * ms.length := Nat.mul_le_mul_right _ (Nat.min_le_right _ _)
          have h2 : (growN ms i).length * ms.length = (growN ms (i + 1)).length := by rw [growN, grow_len]
          omega
        have hHd : Same H Hd := fun b o e => hD _ _ (hH _ _ e)
        refine ⟨_, rfl, _, rfl, a, rfl, ⟨_, hHd.seq hS⟩, fun D nD => ?_⟩
        have sD := same_new (o := .lst []) nD
        refine lc_list (K := K) (a := a) (xs := ms.map V.str) (fun c Hx => ∃ rs : List Addr, Hx D = some (.lst (rs.map V.ref)) ∧ Paired (fun r kk => r ≠ D ∧ At3 H (i + 1) Hx r kk) rs ((ms.take c).map fun z => sk ++ [Sum.inr z]) ∧ Same Hd Hx) ?_ ?_ ?_ ?_
        · exact ⟨[], upd_same, .nil, sD⟩
        · rintro c Hx hc ⟨rs, q1, q2, q3⟩
          exact q3.seq (hHd.seq hS)
        · rintro c x Hx hx ⟨rs, q1, q2, q3⟩
          obtain ⟨z, ez, rfl⟩ : ∃ z, ms[c]? = some z ∧ V.str z = x := by
            rw [List.getElem?_map] at hx
            exact Option.map_eq_some_iff.mp hx
          have hcl : c < ms.length := (List.getElem?_eq_some_iff.mp ez).1
          have emk : (ms.take (c + 1)).map (fun z => sk ++ [(Sum.inr z : Key)]) = (ms.take c).map (fun z => sk ++ [Sum.inr z]) ++ [sk ++ [Sum.inr z]] := by
            rw [List.take_add_one, ez, List.map_append] <;> rfl
          have rl : rs.length = c := by
            rw [Paired.length q2, List.length_map, List.length_take]
            omega
          have skl : sk.length = i := growN_each ms i sk (List.mem_of_getElem? ek)
          refine ⟨rfl, ?_⟩
          refine ⟨_, rfl, _, rfl, (by show 1 ≤ sizeLine; decide), fun t1 nt1 => ?_⟩
          have s1 := same_new (o := .tup [V.str z]) nt1
          have put : ∀ (r : Addr) (Hy : Hp), Same Hx Hy → Hx r = none → At3 H (i + 1) Hy r (sk ++ [(Sum.inr z : Key)]) →
              ∃ acc, Hy D = some (.lst acc) ∧ acc.length < sizeLine ∧ ∃ rs : List Addr, (upd Hy D (.lst (acc ++ [V.ref r]))) D = some (.lst (rs.map V.ref)) ∧ Paired (fun q kk => q ≠ D ∧ At3 H (i + 1) (upd Hy D (.lst (acc ++ [V.ref r]))) q kk) rs ((ms.take (c + 1)).map fun z => sk ++ [Sum.inr z]) ∧ Same Hd (upd Hy D (.lst (acc ++ [V.ref r]))) := by
            intro r Hy sy nr hr
            have rD : r ≠ D := fun q => by
              rw [q, q1] at nr
              cases nr
            refine ⟨_, sy _ _ q1, ?_, rs ++ [r], ?_, ?_, fun b o e => ?_⟩
            · rw [List.length_map, rl]
              exact len_ok (by omega)
            · rw [upd_same, List.map_append] <;> rfl
            · rw [emk]
              exact Paired.snoc (Paired.mapP q2 fun r' kk h => ⟨h.1, h.2.to fun o e => (upd_ne h.1).trans (sy _ _ e)⟩) ⟨rD, hr.to fun o e => (upd_ne rD).trans e⟩
            · exact (upd_ne (ne_of_none e nD)).trans (sy _ _ (q3 _ _ e))
          have ht1 := s1 _ _ (q3 _ _ hd1)
          refine ⟨t, t1, sk.map kV, [V.str z], rfl, rfl, SqT.of ht1, SqT.of upd_same, ?_, (by simp), fun e0 => ?_, fun e0 => ?_⟩
          · rw [List.length_map, skl]
            exact sz (show i + 1 ≤ 1000 by omega)
          · have : sk = [] := List.map_eq_nil_iff.mp e0
            have i0 : i = 0 := by rw [← skl, this] <;> rfl
            refine put t1 _ s1 nt1 (At3.low (by omega) ?_)
            rw [this]
            exact upd_same
          · by_cases i2 : i + 1 < 3
            · refine .inl fun r nr => put r _ (fun b o e => same_new nr _ _ (s1 _ _ e)) ?_ (At3.low i2 ?_)
              · cases e : Hx r with
                | none => rfl
                | some o =>
                  rw [s1 _ _ e] at nr
                  cases nr
              · show _ = some _
                rw [upd_same, List.map_append] <;> rfl
            · refine .inr fun r Hn nr sn hb => put r Hn (fun b o e => sn _ _ (s1 _ _ e)) ?_ ⟨fun q => absurd q i2, fun _ => ⟨?_, ?_⟩⟩
              · cases e : Hx r with
                | none => rfl
                | some o =>
                  rw [s1 _ _ e] at nr
                  cases nr
              · exact nGH (fun b o e => s1 _ _ (q3 _ _ (hHd _ _ e))) nr
              · rw [List.map_append]
                exact hb
        · rintro Hx ⟨rs, q1, q2, q3⟩
          rw [List.length_map, List.take_length] at q2
          have rl : rs.length = ms.length := by rw [Paired.length q2, List.length_map]
          refine ⟨G, D, gs.map V.ref, rs.map V.ref, rfl, rfl, q3 _ _ hG, q1, ?_, fun p np => ?_⟩
          · rw [List.length_map, List.length_map, gl, rl]
            exact sz (by omega)
          · have sp := same_new (o := .lst (gs.map V.ref ++ rs.map V.ref)) np
            refine ⟨_, _, _, p, gs ++ rs, rfl, ?_, ?_, ?_, fun b o e => sp _ _ (q3 _ _ (hD _ _ e))⟩
            · exact nGH (fun b o e => q3 _ _ (hHd _ _ e)) np
            · rw [upd_same, List.map_append]
            · rw [etk, grow_append]
              refine pair_app (Paired.mapP hgs fun r kk h => h.to fun o e => sp _ _ (q3 _ _ e)) ?_
              have e1 : grow ms [sk] = ms.map fun z => sk ++ [(Sum.inr z : Key)] := by
                unfold grow
                rw [List.flatMap_cons, List.flatMap_nil, List.append_nil]
              rw [e1]
              exact Paired.mapP q2 fun r kk h => h.2.to fun o e => sp _ _ e
      · rintro σ Hd ⟨w2, w4, w5, G, gs, rfl, nG, hG, hgs, hD⟩
        refine ⟨_, rfl, ?_⟩
        refine ⟨_, _, _, _, G, gs, rfl, nG, hG, ?_, fun b o e => hD _ _ (hH _ _ e)⟩
        rw [show (ts.map V.ref).length = (growN ms i).length by rw [List.length_map]; exact Paired.length hT, List.take_length] at hgs
        exact hgs
    · rintro σ Hc ⟨v2, v3, v4, v5, L, ts, rfl, nL, hL, hT, hH⟩
      exact ⟨_, rfl, k L ts Hc nL hL (Paired.mapP hT fun t kk h => h.2 rfl) hH⟩
end
end Yt

set_option Elab.async false
set_option linter.all false
set_option maxRecDepth 100000
set_option maxHeartbeats 2000000
namespace Yt
open PySem PySem.Spec PyProof.Rows L2
abbrev sIsMajor : Stmt := top 50
/-- which of three marks stand twice -/
def dup3 (x y z c : Str) : Bool := decide (1 < [x, y, z].countP fun u => decide (u = c))
def twL (x y z : Str) : List Str := [x, y, z].filter (dup3 x y z)
theorem twL_is (x y z : Str) : (twiceV x y z = .non ∧ twL x y z = []) ∨ ∃ c r, twiceV x y z = .str c ∧ twL x y z = c :: r := by
  unfold twL twiceV dup3
  by_cases e1 : x = y
  · subst e1
    refine .inr ⟨x, ?_⟩
    by_cases e2 : x = z
    · subst e2
      exact ⟨[x, x], by simp, by simp⟩
    · exact ⟨[x], by simp, by simp [e2, Ne.symm e2]⟩
  · by_cases e2 : x = z
    · subst e2
      exact .inr ⟨x, [x], by simp, by simp [e1, Ne.symm e1]⟩
    · by_cases e3 : y = z
      · subst e3
        exact .inr ⟨y, [y], by simp [e1, e2], by simp [e1, Ne.symm e1]⟩
      · exact .inl ⟨by simp [e1, e2, e3], by simp [e1, e2, e3, Ne.symm e1, Ne.symm e2, Ne.symm e3]⟩
theorem kV_inj : ∀ {a b : List Key}, a.map kV = b.map kV → a = b
  | [], [], _ => rfl
  | [], _ :: _, h => by simp at h
  | _ :: _, [], h => by simp at h
  | x :: a, y :: b, h => by
    rw [List.map_cons, List.map_cons, List.cons.injEq] at h
    rw [kV_inj h.2]
    congr 1
    cases x <;> cases y <;> simp_all [kV]
def tCnt : TT := fun σ H Q => ∃ (t : Addr) (zs : List Str) (c : Str), σ[2]? = some (some (.ref t)) ∧ σ[3]? = some (some (.str c)) ∧ Bare H t (zs.map V.str) ∧ Q (decide (1 < zs.countP fun u => decide (u = c))) H
theorem majAt_non {m : List (List Key × V)} {x y z : Str} (h : twiceV x y z = .non) : majAt m [Sum.inr x, Sum.inr y, Sum.inr z] = true := by
  unfold majAt
  show inV (twiceV x y z) _ = true
  rw [h]
  simp [inV, eqV]
theorem majAt_str {m : List (List Key × V)} {x y z c v : Str} (h : twiceV x y z = .str c) (g : valV m [Sum.inr x, Sum.inr y, Sum.inr z] = some (.str v)) : majAt m [Sum.inr x, Sum.inr y, Sum.inr z] = decide (v = c) := by
  unfold majAt
  show inV (twiceV x y z) _ = _
  rw [h, g]
  by_cases e : v = c
  · simp [inV, eqV, e]
  · simp [inV, eqV, e, Ne.symm e]
def strsD (zs : List Str) : PyData := .list (zs.map PyData.str)
theorem strsD_lay : ∀ zs : List Str, (∀ z ∈ zs, WordOk z) → PyData.canLayAll0 (zs.map PyData.str) = true
  | [], _ => rfl
  | z :: r, h => by
    have := strsD_lay r fun x hx => h x (List.mem_cons_of_mem _ hx)
    show (PyData.strOk z && PyData.canLayAll0 (r.map PyData.str)) = true
    rw [this, word_str (h z List.mem_cons_self)]
    rfl
theorem strsD_depth : ∀ zs : List Str, PyData.depthAll (zs.map PyData.str) = 0
  | [] => by simp only [List.map_nil, PyData.depthAll]
  | z :: r => by
    have h := strsD_depth r
    simp only [List.map_cons, PyData.depthAll, PyData.depth, h]
    rfl
theorem strsD_shaped {zs : List Str} (h : ∀ z ∈ zs, WordOk z) : SeqAt.shaped (strsD zs) = true := by
  unfold SeqAt.shaped
  rw [show (strsD zs).canLay0 = true from strsD_lay zs h]
  have e : (strsD zs).depth ≤ 64 := by
    unfold strsD
    simp only [PyData.depth, strsD_depth]
    omega
  rw [decide_eq_true e]
  rfl
theorem dp_strs {K : PySem.W.Frag} {H : Hp} : ∀ zs : List Str, DpAll K H (zs.map V.str) (zs.map PyData.str)
  | [] => .nil
  | z :: r => .cons (.str z) (dp_strs r)
section
variable {P : Program} {w : World} {K : PySem.W.Frag} {mg : Str → Option Value} {base : Heap} {f : Addr} {fd : FuncData}
theorem scIsMajor : FnScope ["_law_marks_here", "_law_way", "_law_three", "_law_mark", "_law_twice"] ["_law_marks_here", "_law_way"] (defScope sIsMajor) := ⟨rfl, rfl, rfl, by decide +kernel, rfl, by decide +kernel, by decide +kernel⟩
theorem ok_ismajor {fT : Addr} {dT : FuncData} (F : FnP K "_law_is_major" sIsMajor f fd)
    (GT : FnOk P w K mg base CX0 1 fT dT ["_law_marks_here"] (spThreesB K)) (bT : Binds K dT ["_law_marks_here"] []) (kT : PySem.W.keepIn K (.ref fT) = true) (gT : mg "_law_threes" = some (.ref fT)) :
    FnOk P w K mg base CX0 2 f fd ["_law_marks_here", "_law_way"] spMajB := by
  refine F.ok scIsMajor (fun vs H Q E h => ?_) (fun cdv A outer s H vs Q E hr h => ?_)
  · obtain ⟨ms, m, ⟨a, d, rfl, _⟩, _⟩ := h
    rfl
  · obtain ⟨ms, m, ⟨a, d, rfl, ha, hm, hd⟩, k⟩ := h
    have hu := hu_of hr
    refine ⟨_, PSs.nox (pss_cons (ps_for PassesOwn.never rfl (pi_list (pe_call GT hr rfl gT kT bT .nil pass0 (pa_cons (pv 0) pa_nil))) (pg_name (i := 2) scIsMajor.nd rfl (Or.inr rfl))
        (pss_cons (ps_setLc (i := 4) (own := [("_law_mark", 3)]) (g := gName 3) (tt := tCnt) (te := tVar 3) rfl scIsMajor.nd rfl rfl (sw_true rfl rfl rfl (by decide +kernel)) (pi_tup (pv 2)) (blkOk_by (own := [("_law_mark", 3)]) (N := ["_law_marks_here", "_law_way", "_law_three", "_law_mark", "_law_twice"]) (sc := defScope sIsMajor) (by decide +kernel))
            (fun _ _ _ _ _ => pg_name (i := 3) scIsMajor.nd rfl (Or.inl rfl)) (fun _ _ _ _ _ => ptsW (pts_one (pt_cmpR op_gt (pe_countB (pv 2) (pa_cons (pv 3) pa_nil)) pe_int (nomark _))) fun σ H Q hq => ?_) (fun _ _ _ _ _ => pv 3))
        (pss_one (ps_thaw (ps_if (PW.pt (pw_and (pt_cmpR (op_neD hr.units) (pv 4) (pe_lst pa_nil) (nomark _)) (pw_and1 (pt_cmpR op_ne (pe_dget hu (pv 1) (pv 2) (fun _ _ => rfl)) (pe_ix ix_list (pv 4) pe_int (fun _ _ => rfl)) (nomark _))))) (pss_one (ps_ret pe_bl)) pss_nil)))))
      (pss_one (ps_ret pe_bl))), ?_⟩
    · obtain ⟨t, zs, c, h2, h3, hb, q⟩ := hq
      refine ⟨_, h2, t, zs, rfl, hb, _, h3, c, rfl, hb, _, _, rfl, rfl, decide (1 < zs.countP fun u => decide (u = c)), ?_, q⟩
      show V.bl (decide ((1 : Int) < ((zs.countP fun u => decide (u = c) : Nat) : Int))) = _
      by_cases h : 1 < zs.countP fun u => decide (u = c)
      · rw [decide_eq_true h, decide_eq_true (by omega)]
      · rw [decide_eq_false h, decide_eq_false (by omega)]
    have few : (growN ms 3).length ≤ 125 := by
      rw [growN_len]
      exact Nat.pow_le_pow_left hm.2.1 3
    have nd := growN_nodup hm.2.2.1.nodup 3
    refine ⟨_, rfl, a, ms, rfl, SqL.of ha, hm.2.1, fun L ts H1 nL hL hT s1 => ?_⟩
    have tl : ts.length = (growN ms 3).length := Paired.length hT
    refine ⟨L, rfl, ⟨_, SqL.of hL⟩, for_list (K := K) (a := L) (xs := ts.map V.ref) (fun i σ Hc => ∃ v2 v3 v4 : Option V, σ = [some (.ref a), some (.ref d), v2, v3, v4] ∧ ((growN ms 3).take i).all (majAt m) = true ∧ Same H Hc ∧ Hc L = some (.lst (ts.map V.ref)) ∧ ∀ j t kk, i ≤ j → ts[j]? = some t → (growN ms 3)[j]? = some kk → Bare Hc t (kk.map kV))
      ⟨none, none, none, rfl, rfl, s1, hL, fun j t kk _ e1 e2 => ?_⟩ (fun i σ Hc _ ⟨_, _, _, _, _, _, z, _⟩ => SqL.of z) ?_ ?_⟩
    · obtain ⟨kk', e3, _, hb⟩ := paired_at' hT e1
      rw [e2] at e3
      cases e3
      exact hb
    · rintro i u σ Hc hi ⟨v2, v3, v4, rfl, hall, sH, hLc, hB⟩
      rw [List.getElem?_map] at hi
      obtain ⟨t, et, rfl⟩ := Option.map_eq_some_iff.mp hi
      obtain ⟨kk, ek, nt, hb1⟩ := paired_at' hT et
      obtain ⟨x, y, z, hx, hy, hz, rfl⟩ := grow3_form (List.mem_of_getElem? ek)
      have hb : Bare Hc t ([x, y, z].map V.str) := hB i t _ (Nat.le_refl _) et ek
      have et1 : (growN ms 3).take (i + 1) = (growN ms 3).take i ++ [[Sum.inr x, Sum.inr y, Sum.inr z]] := by rw [List.take_add_one, ek] <;> rfl
      refine ⟨_, rfl, t, rfl, ⟨_, hb.sq⟩, fun D hD => ?_⟩
      refine lc_tup (K := K) (a := t) (xs := [V.str x, V.str y, V.str z]) (fun i Hx => Hx D = some (.lst ((([x, y, z].take i).filter (dup3 x y z)).map V.str)) ∧ Same Hc Hx) ⟨upd_same, same_new hD⟩ (fun i Hx _ q => (hb.to fun o e => q.2 _ _ e).sq) ?_ ?_
      · rintro j v Hx hv ⟨q1, q2⟩
        have xyz : [V.str x, V.str y, V.str z] = [x, y, z].map V.str := rfl
        rw [xyz, List.getElem?_map] at hv
        obtain ⟨c, ec, rfl⟩ := Option.map_eq_some_iff.mp hv
        have hj : j < 3 := (List.getElem?_eq_some_iff.mp ec).1
        have ej : [x, y, z].take (j + 1) = [x, y, z].take j ++ [c] := by rw [List.take_add_one, ec] <;> rfl
        refine ⟨rfl, ?_⟩
        refine ⟨t, [x, y, z], c, rfl, rfl, hb.to fun o e => q2 _ _ e, ?_⟩
        show if dup3 x y z c = true then _ else _
        cases hf : dup3 x y z c with
        | false =>
          refine iteF ⟨?_, q2⟩
          rw [ej, List.filter_append, List.filter_cons_of_neg (by rw [hf]; decide), List.filter_nil, List.append_nil]
          exact q1
        | true =>
          refine iteT ?_
          refine ⟨_, rfl, _, q1, ?_, ?_, fun b o e => (upd_ne (ne_of_none e hD)).trans (q2 _ _ e)⟩
          · rw [List.length_map]
            have h1 := List.length_filter_le (dup3 x y z) ([x, y, z].take j)
            rw [List.length_take] at h1
            exact len_ok (by simp only [List.length_cons, List.length_nil] at h1; omega)
          · rw [upd_same, ej, List.filter_append, List.filter_cons_of_pos hf, List.filter_nil, List.map_append]
            rfl
      · rintro Hx ⟨q1, q2⟩
        have q1 : Hx D = some (.lst ((twL x y z).map V.str)) := q1
        obtain ⟨ob, c1, c2, c3⟩ := hb.to fun o e => q2 _ _ e
        refine ⟨t, ob, _, nt, c3, ?_⟩
        have sy : Same H (upd Hx t (.tup ([x, y, z].map V.str))) := fun b o e => (upd_ne (ne_of_none e nt)).trans (q2 _ _ (sH _ _ e))
        have Dt : D ≠ t := fun e => by
          rw [e, c3] at q1
          cases q1
        have qD : (upd Hx t (.tup ([x, y, z].map V.str))) D = some (.lst ((twL x y z).map V.str)) := (upd_ne Dt).trans q1
        have Lt : L ≠ t := fun e => by
          obtain ⟨o, _, _, e3⟩ := hb
          rw [← e, hLc] at e3
          cases e3
        have tB : ∀ j t' kk, i + 1 ≤ j → ts[j]? = some t' → (growN ms 3)[j]? = some kk → Bare (upd Hx t (.tup ([x, y, z].map V.str))) t' (kk.map kV) := fun j t' kk hij e1 e2 => by
          have hb' := (hB j t' kk (by omega) e1 e2).to fun o e => q2 _ _ e
          have ne : t' ≠ t := fun e => by
            obtain ⟨o1, _, _, f1⟩ := hb'
            rw [e, c3] at f1
            have f2 : [x, y, z].map V.str = kk.map kV := HO.tup.inj (HO.frz.inj (Option.some.inj f1)).2
            have f3 : ([Sum.inr x, Sum.inr y, Sum.inr z] : List Key) = kk := kV_inj f2
            obtain ⟨l1, g1⟩ := List.getElem?_eq_some_iff.mp ek
            obtain ⟨l2, g2⟩ := List.getElem?_eq_some_iff.mp e2
            have := List.pairwise_iff_getElem.mp nd i j l1 l2 (by omega)
            rw [g1, g2] at this
            exact this f3
          exact hb'.to fun o e => (upd_ne ne).trans e
        have words : ∀ c ∈ twL x y z, WordOk c := fun c hc => by
          have := (List.mem_filter.mp hc).1
          simp only [List.mem_cons, List.not_mem_nil, or_false] at this
          rcases this with rfl | rfl | rfl
          · exact hm.2.2.2 _ hx
          · exact hm.2.2.2 _ hy
          · exact hm.2.2.2 _ hz
        have go : ∀ Hz : Hp, Same (upd Hx t (.tup ([x, y, z].map V.str))) Hz → majAt m [Sum.inr x, Sum.inr y, Sum.inr z] = true → ∃ w2 w3 w4 : Option V, [some (V.ref a), some (.ref d), some (.ref t), v3, some (.ref D)] = [some (.ref a), some (.ref d), w2, w3, w4] ∧ ((growN ms 3).take (i + 1)).all (majAt m) = true ∧ Same H Hz ∧ Hz L = some (.lst (ts.map V.ref)) ∧ ∀ j t kk, i + 1 ≤ j → ts[j]? = some t → (growN ms 3)[j]? = some kk → Bare Hz t (kk.map kV) := fun Hz sz hmaj =>
          ⟨_, _, _, rfl, by rw [et1, List.all_append, hall]; simp [hmaj], fun b o e => sz _ _ (sy _ _ e), sz _ _ ((upd_ne Lt).trans (q2 _ _ hLc)), fun j t' kk h1 e1 e2 => (tB j t' kk h1 e1 e2).to fun o e => sz _ _ e⟩
        refine ⟨_, rfl, (by show 0 ≤ sizeLine; decide), fun e0 ne0 => ?_⟩
        have s0 := same_new (o := .lst []) ne0
        refine ⟨strsD (twL x y z), strsD [], .lst (SqL.of (s0 _ _ qD)) (dp_strs _), .lst (SqL.of upd_same) .nil, strsD_shaped words, strsD_shaped (fun _ h => nomatch h), _, rfl, ?_⟩
        rcases twL_is x y z with ⟨h1, h2⟩ | ⟨c, r, h1, h2⟩
        · have e1 : PyData.eqv (strsD (twL x y z)) (strsD []) = true := by
            rw [h2]
            exact SeqAt.eqv_refl _ rfl
          rw [e1]
          refine iteF ?_
          exact go _ s0 (majAt_non h1)
        · have e1 : PyData.eqv (strsD (twL x y z)) (strsD []) = false := by
            rw [h2]
            rfl
          rw [e1]
          refine iteT ?_
          have hdz := s0 _ _ (sy _ _ hd.1)
          have htz := s0 _ _ (upd_same (H := Hx) (a := t) (o := .tup ([x, y, z].map V.str)))
          have kmem := List.mem_of_getElem? ek
          obtain ⟨⟨k3, v⟩, hmem, e3⟩ := List.mem_map.mp (hd.2.1.mem_iff.mpr kmem)
          have e3 : k3 = [Sum.inr x, Sum.inr y, Sum.inr z] := e3
          subst e3
          obtain ⟨zv, hzv, ev⟩ := hd.2.2 _ hmem
          have ev : v = V.str zv := ev
          subst ev
          obtain ⟨j, ej⟩ := List.mem_iff_getElem?.mp hmem
          have gv : valV m [Sum.inr x, Sum.inr y, Sum.inr z] = some (V.str zv) := valV_at (hd.2.1.nodup_iff.mpr nd) ej
          have hmaj := majAt_str h1 gv
          refine ⟨_, rfl, _, rfl, d, V.str zv, rfl, ?_, ?_⟩
          · have := DGet.t (k := [Sum.inr x, Sum.inr y, Sum.inr z]) hdz htz
            rw [gv] at this
            exact this
          refine ⟨_, rfl, D, _, _, V.str c, rfl, rfl, SqL.of (s0 _ _ qD), atI_nat (j := 0) (by rw [h2] <;> rfl), rfl, !decide (zv = c), ?_, ?_⟩
          · by_cases q : zv = c
            · subst q
              simp
            · have : V.str zv ≠ V.str c := fun h => q (V.str.inj h)
              simp [q, this]
          · cases q : decide (zv = c) with
            | true =>
              refine iteF ?_
              exact go _ s0 (by rw [hmaj, q])
            | false =>
              refine iteT ?_
              have e : majB ms m = false := by
                unfold majB
                rw [List.all_eq_false]
                exact ⟨_, kmem, by rw [hmaj, q]; decide⟩
              have := k _ (fun b o e => s0 _ _ (sy _ _ e))
              rw [e] at this
              exact this
    · rintro σ Hc ⟨v2, v3, v4, rfl, hall, sH, hLc, hB⟩
      rw [List.length_map, tl, List.take_length] at hall
      have e : majB ms m = true := hall
      have := k Hc sH
      rw [e] at this
      exact this
end
end Yt

set_option Elab.async false
set_option linter.all false
set_option maxRecDepth 100000
set_option maxHeartbeats 2000000
namespace Yt
open PySem PySem.Spec PyProof.Rows L2
/-! ### which ways are majorities -/
theorem way_val {ms : List Str} (hm : MarksOk ms) (g : List Key → V) {k : List Key} (hk : k ∈ growN ms 3) : valV (wayOf ms g) k = some (g k) := by
  obtain ⟨i, e⟩ := List.mem_iff_getElem?.mp hk
  refine valV_at (i := i) (by rw [way_keys]; exact growN_nodup hm.2.2.1.nodup 3) ?_
  unfold wayOf
  rw [List.getElem?_map, e]
  rfl
theorem way_in {ms : List Str} {g : List Key → V} {H : Hp} {d : Addr} (hd : H d = some (.dT (wayOf ms g))) (hg : ∀ k ∈ growN ms 3, ∃ z ∈ ms, g k = .str z) : WayIn H d ms (wayOf ms g) := by
  refine ⟨hd, by rw [way_keys], fun e he => ?_⟩
  obtain ⟨k, hk, rfl⟩ := List.mem_map.mp he
  exact hg k hk
theorem maj_true {ms : List Str} (hm : MarksOk ms) {g : List Key → V} (hg : ∀ k ∈ growN ms 3, twK k ≠ .non → g k = twK k) : majB ms (wayOf ms g) = true := by
  unfold majB
  rw [List.all_eq_true]
  intro k hk
  obtain ⟨x, y, z, _, _, _, rfl⟩ := grow3_form hk
  unfold majAt
  rw [way_val hm g hk]
  have h := hg _ hk
  show inV (twiceV x y z) [.non, g _] = true
  have h' : twiceV x y z ≠ .non → g [Sum.inr x, Sum.inr y, Sum.inr z] = twiceV x y z := h
  rcases twL_is x y z with ⟨h1, _⟩ | ⟨c, r, h1, _⟩
  · rw [h1]
    simp [inV, eqV]
  · rw [h' (by rw [h1]; simp), h1]
    simp [inV, eqV]
theorem grow_mem3 {ms : List Str} {x y z : Str} (hx : x ∈ ms) (hy : y ∈ ms) (hz : z ∈ ms) : ([Sum.inr x, Sum.inr y, Sum.inr z] : List Key) ∈ growN ms 3 := by
  have put : ∀ {L : List (List Key)} {s : List Key} {c : Str}, s ∈ L → c ∈ ms → s ++ [Sum.inr c] ∈ grow ms L := fun hs hc => List.mem_flatMap.mpr ⟨_, hs, List.mem_map.mpr ⟨_, hc, rfl⟩⟩
  exact put (put (put (List.mem_singleton.mpr rfl) hx) hy) hz
theorem mid_str {os : List Str} {x y z : Str} (hx : x ∈ os) (hy : y ∈ os) (hz : z ∈ os) : ∃ c ∈ os, midOf os [.inr x, .inr y, .inr z] = .str c ∧ (c = x ∨ c = y ∨ c = z) ∧ med (idx os x) (idx os y) (idx os z) = idx os c := by
  obtain ⟨c, hc, h3, em⟩ : ∃ c ∈ os, (c = x ∨ c = y ∨ c = z) ∧ med (idx os x) (idx os y) (idx os z) = idx os c := by
    rcases med_in (idx os x) (idx os y) (idx os z) with h | h | h
    · exact ⟨x, hx, .inl rfl, h⟩
    · exact ⟨y, hy, .inr (.inl rfl), h⟩
    · exact ⟨z, hz, .inr (.inr rfl), h⟩
  obtain ⟨j, ej, hj, _⟩ := idx_at hc
  refine ⟨c, hc, ?_, h3, em⟩
  show (os.map V.str).getD (med (idx os x) (idx os y) (idx os z)).toNat .non = _
  rw [em, ej, Int.toNat_natCast, List.getD_eq_getElem?_getD, List.getElem?_map, hj]
  rfl
theorem idx_inj {os : List Str} {x y : Str} (hx : x ∈ os) (hy : y ∈ os) (h : idx os x = idx os y) : x = y := by
  obtain ⟨j, ej, hj, _⟩ := idx_at hx
  obtain ⟨l, el, hl, _⟩ := idx_at hy
  rw [ej, el] at h
  have : j = l := by omega
  subst this
  rw [hj] at hl
  exact Option.some.inj hl
theorem mid_maj {os : List Str} {x y z c : Str} (hx : x ∈ os) (hy : y ∈ os) (hz : z ∈ os) (h : twiceV x y z = .str c) : midOf os [.inr x, .inr y, .inr z] = .str c := by
  obtain ⟨e, he, h1, _, h3⟩ := mid_str hx hy hz
  rw [h1]
  congr 1
  unfold twiceV at h
  have hc : c ∈ os ∧ med (idx os x) (idx os y) (idx os z) = idx os c := by
    split at h
    · rename_i q
      cases V.str.inj h
      rcases q with rfl | rfl
      · exact ⟨hx, by unfold med; omega⟩
      · exact ⟨hx, by unfold med; omega⟩
    · split at h
      · rename_i q
        cases V.str.inj h
        subst q
        exact ⟨hy, by unfold med; omega⟩
      · cases h
  rw [hc.2] at h3
  exact (idx_inj he hc.1 h3.symm)
theorem majB_mid {ms os : List Str} (hm : MarksOk ms) (hp : os.Perm ms) : majB ms (wayOf ms (midOf os)) = true := by
  refine maj_true hm fun k hk hn => ?_
  obtain ⟨x, y, z, hx, hy, hz, rfl⟩ := grow3_form hk
  have hn : twiceV x y z ≠ .non := hn
  rcases twL_is x y z with ⟨h1, _⟩ | ⟨c, r, h1, _⟩
  · exact absurd h1 hn
  · show _ = twiceV x y z
    rw [h1]
    exact mid_maj (hp.mem_iff.mpr hx) (hp.mem_iff.mpr hy) (hp.mem_iff.mpr hz) h1
theorem mid_in {ms os : List Str} (hp : os.Perm ms) : ∀ k ∈ growN ms 3, ∃ z ∈ ms, midOf os k = .str z := fun k hk => by
  obtain ⟨x, y, z, hx, hy, hz, rfl⟩ := grow3_form hk
  obtain ⟨c, hc, h, _⟩ := mid_str (hp.mem_iff.mpr hx) (hp.mem_iff.mpr hy) (hp.mem_iff.mpr hz)
  exact ⟨c, hp.mem_iff.mp hc, h⟩
theorem majB_majG {ms : List Str} (hm : MarksOk ms) (n : Nat) : majB ms (wayOf ms (majG ms n)) = true := maj_true hm fun k _ hn => by
  unfold majG
  rw [if_neg hn]
theorem majG_in {ms : List Str} (hm : MarksOk ms) (n : Nat) : ∀ k ∈ growN ms 3, ∃ z ∈ ms, majG ms n k = .str z := fun k hk => by
  obtain ⟨x, y, z, hx, hy, hz, rfl⟩ := grow3_form hk
  unfold majG
  rcases twL_is x y z with ⟨h1, _⟩ | ⟨c, r, h1, h2⟩
  · have h1' : twK [Sum.inr x, Sum.inr y, Sum.inr z] = .non := h1
    rw [if_pos h1']
    have kf : ([Sum.inr x, Sum.inr y, Sum.inr z] : List Key) ∈ freeK ms := List.mem_filter.mpr ⟨hk, by unfold isFree; exact decide_eq_true h1⟩
    have nd : ((digs ms (freeK ms).reverse n).map (·.1)).Nodup := by
      rw [digs_keys]
      exact (List.reverse_perm (freeK ms)).nodup_iff.mpr (List.Pairwise.filter _ (growN_nodup hm.2.2.1.nodup 3))
    have kin : ([Sum.inr x, Sum.inr y, Sum.inr z] : List Key) ∈ (digs ms (freeK ms).reverse n).map (·.1) := by
      rw [digs_keys]
      exact List.mem_reverse.mpr kf
    obtain ⟨⟨k3, v⟩, hmem, e3⟩ := List.mem_map.mp kin
    have e3 : k3 = [Sum.inr x, Sum.inr y, Sum.inr z] := e3
    subst e3
    obtain ⟨j, ej⟩ := List.mem_iff_getElem?.mp hmem
    rw [valV_at nd ej]
    have dv : ∀ (L : List (List Key)) (n : Nat), ∀ e ∈ digs ms L n, ∃ z ∈ ms, e.2 = .str z := fun L => by
      induction L with
      | nil => exact fun n e he => nomatch he
      | cons k L ih =>
        intro n e he
        rcases List.mem_cons.mp he with rfl | he
        · have lt : n % ms.length < ms.length := Nat.mod_lt _ hm.1
          refine ⟨ms[n % ms.length], List.getElem_mem lt, ?_⟩
          show (ms.map V.str).getD (n % ms.length) .non = _
          rw [List.getD_eq_getElem?_getD, List.getElem?_map, List.getElem?_eq_getElem lt]
          rfl
        · exact ih _ e he
    exact dv _ _ _ hmem
  · have h1' : twK [Sum.inr x, Sum.inr y, Sum.inr z] = .str c := h1
    rw [if_neg (by rw [h1']; simp), h1']
    have : c ∈ twL x y z := by rw [h2]; exact List.mem_cons_self
    have := (List.mem_filter.mp this).1
    simp only [List.mem_cons, List.not_mem_nil, or_false] at this
    rcases this with rfl | rfl | rfl
    · exact ⟨_, hx, rfl⟩
    · exact ⟨_, hy, rfl⟩
    · exact ⟨_, hz, rfl⟩
theorem pick_in {ms : List Str} {n : Nat} (hn : n ≤ 2) : ∀ k ∈ growN ms 3, ∃ z ∈ ms, pick n k = .str z := fun k hk => by
  obtain ⟨x, y, z, hx, hy, hz, rfl⟩ := grow3_form hk
  match n, hn with
  | 0, _ => exact ⟨x, hx, rfl⟩
  | 1, _ => exact ⟨y, hy, rfl⟩
  | 2, _ => exact ⟨z, hz, rfl⟩
theorem majB_pick {ms : List Str} (hm : MarksOk ms) {n : Nat} (hn : n ≤ 2) : majB ms (wayOf ms (pick n)) = decide (ms.length = 1) := by
  by_cases h1 : ms.length = 1
  · rw [decide_eq_true h1]
    obtain ⟨a, rfl⟩ := List.length_eq_one_iff.mp h1
    refine maj_true hm fun k hk _ => ?_
    obtain ⟨x, y, z, hx, hy, hz, rfl⟩ := grow3_form hk
    rw [List.mem_singleton.mp hx, List.mem_singleton.mp hy, List.mem_singleton.mp hz]
    match n, hn with
    | 0, _ => simp [pick, twK, twiceV, kV]
    | 1, _ => simp [pick, twK, twiceV, kV]
    | 2, _ => simp [pick, twK, twiceV, kV]
  · rw [decide_eq_false h1]
    have nd := hm.2.2.1.nodup
    have l1 := hm.1
    obtain ⟨a, b, ha, hb, ne⟩ : ∃ a b, a ∈ ms ∧ b ∈ ms ∧ a ≠ b := by
      match ms, nd, l1, h1 with
      | a :: b :: r, nd, _, _ => exact ⟨a, b, by simp, by simp, fun e => (List.nodup_cons.mp nd).1 (by rw [e]; simp)⟩
      | [_], _, _, h1 => exact absurd rfl h1
    unfold majB
    rw [List.all_eq_false]
    match n, hn with
    | 0, _ =>
      refine ⟨_, grow_mem3 ha hb hb, ?_⟩
      rw [majAt_str (c := b) (v := a) (by simp [twiceV, ne]) (way_val hm _ (grow_mem3 ha hb hb))]
      simp [ne]
    | 1, _ =>
      refine ⟨_, grow_mem3 hb ha hb, ?_⟩
      rw [majAt_str (c := b) (v := a) (by simp [twiceV]) (way_val hm _ (grow_mem3 hb ha hb))]
      simp [ne]
    | 2, _ =>
      refine ⟨_, grow_mem3 hb hb ha, ?_⟩
      rw [majAt_str (c := b) (v := a) (by simp [twiceV]) (way_val hm _ (grow_mem3 hb hb ha))]
      simp [ne]
end Yt

set_option Elab.async false
set_option linter.all false
set_option maxRecDepth 100000
set_option maxHeartbeats 2000000
namespace Yt
open PySem PySem.Spec PyProof.Rows L2
/-! ### a tuple, no time and once -/
theorem mul_once (l : Addr) (items : Array Value) (n : Nat) (dd : Option Addr) (sl : Array (Option Value)) (u : Tok) :
    Meets (Builtin.«tuple.__mul__» ⟨[.ref l, .int 1 u], []⟩) (fun _ R s => s.heap.get? l = some { cls := .type "tuple", dict := dd, data := .seq items n, slots := sl } ∧ R (.ok (.ret (.ref l))) s) :=
  .of_wp fun prog w A R s h => by
    obtain ⟨hp, g, d, tk, os⟩ := s
    obtain ⟨hl, h⟩ := h
    have f1 := AutoSeq1.idx_int
    have c1 : (items.isEmpty || (1 : Int) == 1) = true := by simp
    wp_walk using wpAny_loadPart' hl
    exact ⟨_, rfl, h⟩
theorem mul_none (l : Addr) (items : Array Value) (n : Nat) (dd : Option Addr) (sl : Array (Option Value)) (u : Tok) (c1 : (items.isEmpty || (0 : Int) == 1) = false) :
    Meets (Builtin.«tuple.__mul__» ⟨[.ref l, .int 0 u], []⟩) (fun _ R s => s.heap.get? l = some { cls := .type "tuple", dict := dd, data := .seq items n, slots := sl } ∧
      R (.ok (.ret (Value.ref s.heap.objs.size))) { s with heap := s.heap.push { cls := Value.type "tuple", data := Data.seq #[] }, toks := s.toks }) :=
  .of_wp fun prog w A R s h => by
    obtain ⟨hp, g, d, tk, os⟩ := s
    obtain ⟨hl, h⟩ := h
    have f1 := AutoSeq1.idx_int
    wp_walk using wpAny_loadPart' hl
    rw [if_neg (by rw [c1]; exact Bool.false_ne_true)]
    wp_walk
    exact ⟨_, rfl, h⟩
def rRep01 (K : PySem.W.Frag) : R2 := fun x y H Q => ∃ l k xs, x = .ref l ∧ y = .int k ∧ SqT K H l xs ∧ xs ≠ [] ∧ ((k = 1 ∧ Q (.ref l) H) ∨ (k = 0 ∧ ∀ p, H p = none → Q (.ref p) (upd H p (.tup []))))
theorem op_rep01 {X : Cx} : OpR X (binaryOp .Mult) (rRep01 X.K) := by
  intro pins s σ H x y v u Q I rx ry h
  obtain ⟨l, k, xs, rfl, rfl, hT, hne, q⟩ := h
  cases rx
  obtain ⟨t, rfl⟩ := ry
  obtain ⟨its, r, ⟨⟨cls, dd, data, sl⟩, ho, hc, n, hd⟩, hs⟩ := I.tuple hT
  simp only at hc hd
  subst hc hd
  have hn : its ≠ [] := fun e => hne (r.nil_iff.mp e)
  have hi : its.toArray.isEmpty = false := by
    cases its with
    | nil => exact absurd rfl hn
    | cons a b => rfl
  refine wpAny_binaryOp_repeat_ref (T := "tuple") (U := "int") (by decide) ⟨_, ho, rfl⟩ (fun s' => typeIs_int s' k t) noFill_tuple_mul F.fills_int_mul F.slot_int_rmul repeat_tuple F.slot_int_index.lookup
    (call_meets F.slot_int_rmul (typeIs_int s k t) F.entry_int_rmul (F.args_int_rmul_2 _ _) (int_rmul_tuple k t l its.toArray n dd sl) ⟨ho, rfl, ⟨_, ho, rfl⟩, ?_⟩)
  rcases q with ⟨rfl, q⟩ | ⟨rfl, q⟩
  · exact call_meets F.slot_tuple_mul ⟨_, ho, rfl⟩ F.entry_tuple_mul (F.args_tuple_mul_2 _ _) (mul_once l its.toArray n dd sl t) ⟨ho, .ref l, H, I, rfl, q⟩
  · refine call_meets F.slot_tuple_mul ⟨_, ho, rfl⟩ F.entry_tuple_mul (F.args_tuple_mul_2 _ _) (mul_none l its.toArray n dd sl t (by rw [hi] <;> rfl)) ⟨ho, ?_⟩
    refine ⟨.ref s.heap.objs.size, _, I.laid (t' := s.toks) (o := .tup []) (fun b ob q => Heap.get?_push_of_some _ q) (Nat.le_refl _) ?_, rfl, q _ (I.hok.fresh (Nat.le_refl _))⟩
    exact ⟨by show 0 ≤ sizeLine; decide, [], .nil, IsTup.new _ _⟩
end Yt

set_option Elab.async false
set_option linter.all false
set_option maxRecDepth 100000
set_option maxHeartbeats 2000000
namespace Yt
open PySem PySem.Spec PyProof.Rows L2
abbrev sLaw : Stmt := top 52
def forBody : Stmt → List Stmt
  | .For _ _ b _ _ => b
  | _ => []
abbrev noSt : Stmt := .Pass ⟨0, 0, 0, 0⟩
abbrev stP : Stmt := (defBody sLaw).getD 0 noSt
abbrev stM : Stmt := (forBody stP).getD 0 noSt
abbrev stK (i : Nat) : Stmt := (forBody stM).getD i noSt
abbrev lawN : List Str := ["_law_script", "_law_purse_here", "_law_many", "_law_marks_here", "_law_threes_here", "_law_free_here", "_law_number", "_law_three", "_law_due", "_law_order", "_law_lent", "_law_most", "_law_left", "_law_turn", "_law_way", "_law_late", "_law_at", "_law_rows"]
theorem scLaw : FnScope lawN ["_law_script"] (defScope sLaw) := ⟨rfl, rfl, rfl, by decide +kernel, rfl, by decide +kernel, by decide +kernel⟩
/-- a def as it stands: it is called by its name and keeps its promise -/
structure Cal (P : Program) (w : World) (K : PySem.W.Frag) (mg : Str → Option Value) (base : Heap) (x : Str) (k : Nat) (ps : List Str) (sp : Sp) : Prop where
  ex : ∃ f fd, FnOk P w K mg base CX0 k f fd ps sp ∧ Binds K fd ps [] ∧ PySem.W.keepIn K (.ref f) = true ∧ mg x = some (.ref f)
structure Cals (P : Program) (w : World) (K : PySem.W.Frag) (mg : Str → Option Value) (base : Heap) : Prop where
  purses : Cal P w K mg base "_law_purses" 2 ["_law_script", "_law_few"] (spPurses K)
  draw : Cal P w K mg base "_law_draw" 2 ["_law_purse_here", "_law_many"] spDraw
  marks : Cal P w K mg base "_law_marks" 5 ["_law_purse_here", "_law_many"] spMarks
  threes : Cal P w K mg base "_law_threes" 1 ["_law_marks_here"] (spThrees K)
  free : Cal P w K mg base "_law_free" 2 ["_law_marks_here"] (spFree K)
  picker : Cal P w K mg base "picker" 4 ["marks", "number"] spPicker
  right : Cal P w K mg base "_law_way_right" 5 ["_law_marks_here", "_law_told", "_law_due"] spWayRight
  exact4 : Cal P w K mg base "_law_exact" 4 ["_law_mine", "_law_theirs"] (spExact K 4)
  ismaj : Cal P w K mg base "is_majority" 4 ["marks", "value"] spMajB
  shuf : Cal P w K mg base "_law_shuffled" 3 ["_law_purse_here", "_law_some"] (spShuf K)
  midway : Cal P w K mg base "middle_way" 4 ["marks", "order"] spMiddleWay
  lawmid : Cal P w K mg base "_law_middle" 2 ["_law_order"] spLawMid
  many : Cal P w K mg base "many_majorities" 5 ["marks"] spMany
  lawmaj : Cal P w K mg base "_law_majority" 4 ["_law_purse_here", "_law_marks_here"] spLawMaj
  majat : Cal P w K mg base "majority_at" 6 ["marks", "number"] spMajAt
  isway : Cal P w K mg base "is_way" 4 ["marks", "value"] spWayB
  ismajor : Cal P w K mg base "_law_is_major" 2 ["_law_marks_here", "_law_way"] spMajB
  giftof : Cal P w K mg base "gift_of" 4 ["way", "rows"] spGiftOf
  one : Cal P w K mg base "_law_one_of" 3 ["_law_purse_here", "_law_some"] (spOne K)
abbrev LX (P : Program) (w : World) (K : PySem.W.Frag) (mg : Str → Option Value) (base : Heap) (f : Addr) (cdv : Value) (A : Around) (outer : List Env) (s : Shared) (H : Hp) (E : XK) : Cx := (cxOf CX0 P w K mg base lawN "law" (defScope sLaw) f cdv A outer s H E).nox
abbrev RoomL (A : Around) (s : Shared) (f : Addr) (cdv : Value) : Prop := Room 6 (A.deeper (envOfC "law" (defScope sLaw) s.heap.objs.size f cdv))
theorem pstW {X : Cx} {st : Stmt} {t t' : TS} (h : PS X st t) (k : ∀ D σ H, t' D σ H → t D σ H) : PS X st t' := ⟨fun pins s σ H D I q => h.run pins s σ H D I (k D σ H q)⟩
/-- a statement by what holds ahead of it and behind it; it ends in no other way -/
def tSt (pre : L2.St → Hp → Prop) (post : L2.St → Hp → L2.St → Hp → Prop) : TS := fun D σ H => pre σ H ∧ ∀ σ' H', post σ H σ' H' → D.nx σ' H'
/-- the marks of a turn, and all rows over them -/
structure Scene (H : Hp) (A Th Fr : Addr) (ms : List Str) (ts fs : List Addr) : Prop where
  a : H A = some (.lst (ms.map V.str))
  ok : MarksOk ms
  th : H Th = some (.lst (ts.map V.ref))
  tp : Paired (TupAt H) ts (growN ms 3)
  fr : H Fr = some (.lst (fs.map V.ref))
  fp : Paired (TupAt H) fs (freeK ms)
theorem Scene.to {H H' : Hp} {A Th Fr : Addr} {ms : List Str} {ts fs : List Addr} (S : Scene H A Th Fr ms ts fs) (s : Same H H') : Scene H' A Th Fr ms ts fs :=
  ⟨s _ _ S.a, S.ok, s _ _ S.th, Paired.mapP S.tp fun _ _ h => s _ _ h, s _ _ S.fr, Paired.mapP S.fp fun _ _ h => s _ _ h⟩
theorem Scene.few {H : Hp} {A Th Fr : Addr} {ms : List Str} {ts fs : List Addr} (S : Scene H A Th Fr ms ts fs) : (growN ms 3).length ≤ 125 := by
  rw [growN_len]
  exact Nat.pow_le_pow_left S.ok.2.1 3
theorem purse_ne {H : Hp} {p a : Addr} {g : Nat} {ms : List Str} (hP : PurseAt H p g) (h : H a = some (.lst (ms.map V.str))) : a ≠ p := fun e => by
  obtain ⟨x, y, c, t, q, _⟩ := hP
  rw [e, q] at h
  match ms, h with
  | [], h => cases h
  | m :: ms, h => cases h
theorem purse_nt {H : Hp} {p a : Addr} {g : Nat} {xs : List V} (hP : PurseAt H p g) (h : H a = some (.tup xs)) : a ≠ p := fun e => by
  obtain ⟨x, y, c, t, q, _⟩ := hP
  rw [e, q] at h
  cases h
theorem purse_nr {H : Hp} {p a : Addr} {g : Nat} {ts : List Addr} (hP : PurseAt H p g) (h : H a = some (.lst (ts.map V.ref))) : a ≠ p := fun e => by
  obtain ⟨x, y, c, t, q, _⟩ := hP
  rw [e, q] at h
  match ts, h with
  | [], h => cases h
  | m :: ms, h => cases h
theorem purse_nd {H : Hp} {p a : Addr} {g : Nat} {m : List (List Key × V)} (hP : PurseAt H p g) (h : H a = some (.dT m)) : a ≠ p := fun e => by
  obtain ⟨x, y, c, t, q, _⟩ := hP
  rw [e, q] at h
  cases h
theorem Scene.but {H H' : Hp} {A Th Fr p : Addr} {g : Nat} {ms : List Str} {ts fs : List Addr} (S : Scene H A Th Fr ms ts fs) (hP : PurseAt H p g) (b : But p H H') : Scene H' A Th Fr ms ts fs :=
  ⟨b _ _ (purse_ne hP S.a) S.a, S.ok, b _ _ (purse_nr hP S.th) S.th, Paired.mapP S.tp fun _ _ h => b _ _ (purse_nt hP h) h, b _ _ (purse_nr hP S.fr) S.fr, Paired.mapP S.fp fun _ _ h => b _ _ (purse_nt hP h) h⟩
/-- dict() of the list of a way's items, as it is made -/
abbrev PairG (H : Hp) (g : List Key → V) (r : Addr) (k : List Key) : Prop := ∃ t, H r = some (.tup [.ref t, g k]) ∧ H t = some (.tup (k.map kV))
theorem pairG_way {K : PySem.W.Frag} {H : Hp} {g : List Key → V} : ∀ {rs : List Addr} {ks : List (List Key)}, Paired (PairG H g) rs ks → ∃ es : List (Addr × List Key × V), Paired (PairT K H) rs es ∧ es.map (·.2) = ks.map fun k => (k, g k)
  | _, _, .nil => ⟨[], .nil, rfl⟩
  | _, _, .cons (a := r) (b := k) ⟨t, h1, h2⟩ rest => by
    obtain ⟨es, h3, h4⟩ := pairG_way rest
    exact ⟨(t, k, g k) :: es, .cons ⟨SqT.of h1, h2⟩ h3, by rw [List.map_cons, List.map_cons, h4]⟩
theorem way_made {ms : List Str} (hm : MarksOk ms) (g : List Key → V) {es : List (Addr × List Key × V)} (h : es.map (·.2) = (growN ms 3).map fun k => (k, g k)) : mergeT [] (es.map (·.2)) = wayOf ms g := by
  rw [h, mergeT_unlike _ [] ?_]
  · rfl
  · show (((growN ms 3).map fun k => (k, g k)).map (·.1)).Nodup
    rw [List.map_map]
    show ((growN ms 3).map fun k => k).Nodup
    rw [List.map_id' (growN ms 3)]
    exact growN_nodup hm.2.2.1.nodup 3
theorem leaf_in {ms : List Str} {g : List Key → V} (hg : ∀ k ∈ growN ms 3, ∃ z ∈ ms, g k = .str z) : ∀ k ∈ growN ms 3, leafV (g k) = true := fun k hk => by
  obtain ⟨z, _, e⟩ := hg k hk
  rw [e]
  rfl
theorem units2 {k : Nat} {A : Around} (hr : Room k A) : A.units + 2 < cLine := by
  have := hr.units
  omega
section
variable {P : Program} {w : World} {K : PySem.W.Frag} {mg : Str → Option Value} {base : Heap} {f : Addr} {fd : FuncData} {cdv : Value} {A0 : Around} {outer : List Env} {s0 : Shared} {H0 : Hp} {E : XK}
/-- the three that pick -/
theorem st_pick (C : Cals P w K mg base) (T : Nm mg) (T6 : Nm6 mg) (hr : RoomL A0 s0 f cdv) : PS (LX P w K mg base f cdv A0 outer s0 H0 E) (stK 2)
    (tSt (fun σ H => ∃ (a p : V) (A Th Fr : Addr) (ms : List Str) (ts fs : List Addr) (v6 v7 v8 v9 v10 v11 v12 v13 v14 v15 v16 v17 : Option V), σ = [some a, some p, some (.int ms.length), some (.ref A), some (.ref Th), some (.ref Fr), v6, v7, v8, v9, v10, v11, v12, v13, v14, v15, v16, v17] ∧ Scene H A Th Fr ms ts fs)
      fun σ H σ' H' => Same H H' ∧ ∃ v6 v8, σ' = (σ.set 6 v6).set 8 v8) := by
  obtain ⟨fP, dP, GP, bP, kP, gP⟩ := C.picker.ex
  obtain ⟨fR, dR, GR, bR, kR, gR⟩ := C.right.ex
  obtain ⟨fE, dE, GE, bE, kE, gE⟩ := C.exact4.ex
  obtain ⟨fM, dM, GM, bM, kM, gM⟩ := C.ismaj.ex
  have hu := hu_of hr
  have hu2 := units2 hr
  refine pstW (ps_for PassesOwn.never rfl (pi_tup (pe_tup (pa_cons pe_int (pa_cons pe_int (pa_cons pe_int pa_nil))))) (pg_name (i := 6) scLaw.nd rfl (Or.inr rfl))
      (pss_cons (ps_set (i := 8) scLaw.nd rfl (Or.inl rfl) (pe_callTy (call_dictPT rfl hu2) (by rfl) T6.dict (by decide +kernel) (pa_cons
          (pe_lc (own := [("_law_three", 7)]) (g := gName 7) (tt := tYes) (te := tTup (tCons (tVar 7) (tCons (tOp (rIxT K) (tVar 7) (tVar 6)) tNil))) rfl scLaw.nd (pi_list (pv 4)) (blkOk_by (own := [("_law_three", 7)]) (N := lawN) (sc := defScope sLaw) (by decide +kernel))
            (fun _ _ _ _ _ => pg_name (i := 7) scLaw.nd rfl (Or.inl rfl)) (fun _ _ _ _ _ => pts_nil) (fun _ _ _ _ _ => pe_tup (pa_cons (pv 7) (pa_cons (pe_ix ix_tup (pv 7) (pv 6) (fun _ _ => rfl)) pa_nil)))) pa_nil)))
      (pss_cons (ps_if (PW.pt (pw_or (pt_not (pt_val (pe_call GR (hr.mono (by decide)) rfl gR kR bR .nil pass0 (pa_cons (pv 3) (pa_cons (pe_call GP (hr.mono (by decide)) rfl gP kP bP .nil pass0 (pa_cons (pv 3) (pa_cons (pv 6) pa_nil))) (pa_cons (pv 8) pa_nil))))))
          (pw_or1 (pt_not (pt_val (pe_call GE (hr.mono (by decide)) rfl gE kE bE .nil pass0 (pa_cons (pe_call GP (hr.mono (by decide)) rfl gP kP bP .nil pass0 (pa_cons (pe_callTy call_list_of (by rfl) T6.list (by decide +kernel) (pa_cons (pv 3) pa_nil)) (pa_cons (pv 6) pa_nil))) (pa_cons (pv 8) pa_nil)))))))) (pss_one (ps_ret pe_bl)) pss_nil)
      (pss_one (ps_if (pt_not (pt_val (pe_call GE (hr.mono (by decide)) rfl gE kE bE .nil pass0 (pa_cons (pe_call GM (hr.mono (by decide)) rfl gM kM bM .nil pass0 (pa_cons (pv 3) (pa_cons (pv 8) pa_nil))) (pa_cons (pe_cmpR op_eq (pv 2) pe_int (nomark _)) pa_nil))))) (pss_one (ps_ret pe_bl)) pss_nil))))) fun D σ H hq => ?_
  obtain ⟨⟨a, p, A, Th, Fr, ms, ts, fs, v6, v7, v8, v9, v10, v11, v12, v13, v14, v15, v16, v17, rfl, S⟩, k⟩ := hq
  refine ⟨(by show 3 ≤ sizeLine; decide), fun t0 nt0 => ⟨t0, rfl, ⟨_, SqT.of upd_same⟩, for_tup (K := K) (a := t0) (xs := [V.int 0, V.int 1, V.int 2]) (fun i σ Hc => (∃ w6 w8 : Option V, σ = [some a, some p, some (.int ms.length), some (.ref A), some (.ref Th), some (.ref Fr), w6, v7, w8, v9, v10, v11, v12, v13, v14, v15, v16, v17]) ∧ Same (upd H t0 (.tup [V.int 0, V.int 1, V.int 2])) Hc)
    ⟨⟨v6, v8, rfl⟩, fun _ _ e => e⟩ (fun i σ Hc _ q => SqT.of (q.2 _ _ upd_same)) ?_ ?_⟩⟩
  · rintro i u σ Hc hi ⟨⟨w6, w8, rfl⟩, sc⟩
    have sH : Same H Hc := fun b o e => sc _ _ (same_new nt0 _ _ e)
    have i3 : i < 3 := (List.getElem?_eq_some_iff.mp hi).1
    obtain rfl : u = V.int (i : Nat) := by
      match i, i3 with
      | 0, _ => exact (Option.some.inj hi).symm
      | 1, _ => exact (Option.some.inj hi).symm
      | 2, _ => exact (Option.some.inj hi).symm
    have i2 : i ≤ 2 := by omega
    have S1 := S.to sH
    have few := S1.few
    have nd := growN_nodup S1.ok.2.2.1.nodup 3
    refine ⟨_, rfl, Th, rfl, ⟨_, SqL.of S1.th⟩, fun D hD => ?_⟩
    refine lc_list (K := K) (a := Th) (xs := ts.map V.ref) (fun j Hx => ∃ rs : List Addr, Hx D = some (.lst (rs.map V.ref)) ∧ Paired (fun r kk => r ≠ D ∧ ∃ t, t ≠ D ∧ Hx r = some (.tup [.ref t, pick i kk]) ∧ Hx t = some (.tup (kk.map kV))) rs ((growN ms 3).take j) ∧ Same Hc Hx) ⟨[], upd_same, .nil, same_new hD⟩ (fun j Hx _ ⟨_, _, _, z⟩ => SqL.of (z _ _ S1.th)) ?_ ?_
    · rintro j x Hx hx ⟨rs, q1, q2, q3⟩
      rw [List.getElem?_map] at hx
      obtain ⟨t, et, rfl⟩ := Option.map_eq_some_iff.mp hx
      obtain ⟨kk, ek, ht0⟩ := paired_at' S1.tp et
      have ht := q3 _ _ ht0
      have tD : t ≠ D := ne_of_none ht0 hD
      have k3 : kk.length = 3 := growN_each ms 3 kk (List.mem_of_getElem? ek)
      obtain ⟨v, hv⟩ : ∃ v, (kk.map kV)[i]? = some v := ⟨_, List.getElem?_eq_getElem (by rw [List.length_map, k3]; omega)⟩
      have ev : pick i kk = v := by
        unfold pick
        rw [List.getD_eq_getElem?_getD, hv] <;> rfl
      refine ⟨rfl, ?_⟩
      refine ⟨_, rfl, _, rfl, _, rfl, t, kk.map kV, (i : Int), v, rfl, rfl, SqT.of ht, atI_nat hv, (by show 2 ≤ sizeLine; decide), fun r nr => ?_⟩
      have sr := same_new (o := .tup [V.ref t, v]) nr
      have rD : r ≠ D := fun e => by
        rw [e, q1] at nr
        cases nr
      have rl : rs.length ≤ 125 := by
        rw [Paired.length q2, List.length_take]
        omega
      refine ⟨_, sr _ _ q1, ?_, rs ++ [r], by rw [upd_same, List.map_append] <;> rfl, ?_, fun b o e => (upd_ne (ne_of_none e hD)).trans (sr _ _ (q3 _ _ e))⟩
      · rw [List.length_map]
        exact len_ok (by omega)
      · rw [List.take_add_one, ek]
        refine Paired.snoc (Paired.mapP q2 fun r' kk' h => ⟨h.1, h.2.elim fun t' h' => ⟨t', h'.1, (upd_ne h.1).trans (sr _ _ h'.2.1), (upd_ne h'.1).trans (sr _ _ h'.2.2)⟩⟩) ⟨rD, t, tD, (upd_ne rD).trans ?_, (upd_ne tD).trans (sr _ _ ht)⟩
        rw [upd_same, ev]
    · rintro Hx ⟨rs, q1, q2, q3⟩
      rw [List.length_map, Paired.length S1.tp, List.take_length] at q2
      obtain ⟨es, h3, h4⟩ := pairG_way (K := K) (Paired.mapP q2 fun r kk h => (h.2.elim fun t h' => ⟨t, h'.2⟩ : PairG Hx (pick i) r kk))
      refine ⟨D, rs, es, rfl, SqL.of q1, h3, fun d nd0 => ?_⟩
      rw [way_made S1.ok (pick i) h4]
      have sd := same_new (o := .dT (wayOf ms (pick i))) nd0
      have S2 := (S1.to q3).to sd
      have hd : (upd Hx d (.dT (wayOf ms (pick i)))) d = some (.dT (wayOf ms (pick i))) := upd_same
      generalize upd Hx d (.dT (wayOf ms (pick i))) = H5 at sd S2 hd
      have leaf := leaf_in (pick_in (ms := ms) i2)
      refine ⟨_, rfl, _, rfl, _, rfl, A, ms, i, rfl, S2.a, S2.ok, i2, fun L H6 nL hL s6 => ⟨_, rfl, ?_⟩⟩
      have dL : L ≠ d := fun e => by
        rw [e, hd] at nL
        cases nL
      refine ⟨A, L, d, ms, pick i, rfl, s6 _ _ S2.a, S2.ok, dL, hL, s6 _ _ hd, leaf, fun H7 b7 => ⟨true, rfl, ?_⟩⟩
      refine iteF ?_
      have s67 : Same H5 H7 := fun b o e => b7 _ _ (ne_of_none e nL) (s6 _ _ e)
      have S3 := S2.to s67
      refine ⟨_, rfl, A, _, rfl, .inl (SqL.of S3.a), fun l nl => ⟨_, rfl, ?_⟩⟩
      have sl := same_new (o := .lst (ms.map V.str)) nl
      refine ⟨l, ms, i, rfl, upd_same, S3.ok, i2, fun L2 H8 nL2 hL2 s8 => ⟨_, rfl, ?_⟩⟩
      have d8 := s8 _ _ (sl _ _ (s67 _ _ hd))
      have dL2 : L2 ≠ d := fun e => by
        rw [e, sl _ _ (s67 _ _ hd)] at nL2
        cases nL2
      have wl : (wayOf ms (pick i)).length ≤ 1000 := by
        unfold wayOf
        rw [List.length_map]
        omega
      refine ⟨[], _, _, rfl, .inr (.inr (.inr ⟨L2, d, _, _, rfl, rfl, dL2, by simp, by simp, hL2, d8, way_ex leaf, wl, Nat.le_refl _, by rw [way_keys]; exact nd⟩)), fun H9 s9 => ⟨true, rfl, ?_⟩⟩
      refine iteF ?_
      have s59 : Same H5 H9 := fun b o e => s9 _ _ (s8 _ _ (sl _ _ (s67 _ _ e)))
      have S4 := S2.to s59
      refine ⟨_, rfl, _, rfl, ms, _, ⟨A, d, rfl, S4.a, S4.ok, way_in (s59 _ _ hd) (pick_in i2)⟩, fun H10 s10 => ?_⟩
      refine ⟨_, rfl, rfl, [], _, _, rfl, ?_, fun H11 s11 => ⟨true, rfl, ?_⟩⟩
      · have e : V.bl (decide (V.int (ms.length : Nat) = V.int 1)) = V.bl (majB ms (wayOf ms (pick i))) := by
          rw [majB_pick S4.ok i2]
          by_cases h : ms.length = 1
          · simp [h]
          · have : V.int ((ms.length : Nat) : Int) ≠ V.int 1 := fun q => h (by have := V.int.inj q; omega)
            rw [decide_eq_false this, decide_eq_false h]
        rw [e]
        exact Ex.leaf rfl
      refine iteF ?_
      exact ⟨⟨_, _, rfl⟩, fun b o e => s11 _ _ (s10 _ _ (s59 _ _ (sd _ _ (q3 _ _ (sc _ _ e)))))⟩
  · rintro σ Hc ⟨⟨w6, w8, rfl⟩, sc⟩
    exact k _ _ ⟨fun b o e => sc _ _ (same_new nt0 _ _ e), w6, w8, rfl⟩
end
end Yt

set_option Elab.async false
set_option linter.all false
set_option maxRecDepth 100000
set_option maxHeartbeats 2000000
namespace Yt
open PySem PySem.Spec PyProof.Rows L2
/-! ### how many rows are of unlike marks -/
theorem free_len {ms : List Str} (hm : MarksOk ms) (h3 : ms.length ≤ 3) : ((ms.length ^ (freeK ms).length : Nat) : Int) = if ms.length = 3 then 729 else 1 := by
  have nd := hm.2.2.1.nodup
  have l1 := hm.1
  match ms, nd, l1, h3 with
  | [a], _, _, _ => simp
  | [a, b], nd, _, _ =>
    have ne : a ≠ b := fun e => (List.nodup_cons.mp nd).1 (by rw [e]; simp)
    have e : freeK [a, b] = [] := by
      simp [freeK, growN, grow, isFree, twK, twiceV, ne, Ne.symm ne]
    rw [e]
    simp
  | [a, b, c], nd, _, _ =>
    have n1 := List.nodup_cons.mp nd
    have n2 := List.nodup_cons.mp n1.2
    have ab : a ≠ b := fun e => n1.1 (by rw [e]; simp)
    have ac : a ≠ c := fun e => n1.1 (by rw [e]; simp)
    have bc : b ≠ c := fun e => n2.1 (by rw [e]; simp)
    have e : (freeK [a, b, c]).length = 6 := by
      simp [freeK, growN, grow, isFree, twK, twiceV, ab, ac, bc, Ne.symm ab, Ne.symm ac, Ne.symm bc]
    rw [e]
    show (((3 : Nat) ^ 6 : Nat) : Int) = if (3 : Nat) = 3 then 729 else 1
    decide
section
variable {P : Program} {w : World} {K : PySem.W.Frag} {mg : Str → Option Value} {base : Heap} {f : Addr} {fd : FuncData} {cdv : Value} {A0 : Around} {outer : List Env} {s0 : Shared} {H0 : Hp} {E : XK}
/-- the middle -/
theorem st_mid (C : Cals P w K mg base) (T : Nm mg) (hr : RoomL A0 s0 f cdv) : PS (LX P w K mg base f cdv A0 outer s0 H0 E) (stK 5)
    (tSt (fun σ H => ∃ (A O L : Addr) (ms os : List Str), σ[3]? = some (some (.ref A)) ∧ σ[9]? = some (some (.ref O)) ∧ σ[10]? = some (some (.ref L)) ∧ H A = some (.lst (ms.map V.str)) ∧ MarksOk ms ∧ H O = some (.lst (os.map V.str)) ∧ H L = some (.lst (os.map V.str)) ∧ os.Perm ms)
      fun σ H σ' H' => Same H H' ∧ σ' = σ) := by
  obtain ⟨fW, dW, GW, bW, kW, gW⟩ := C.midway.ex
  obtain ⟨fL, dL, GL, bL, kL, gL⟩ := C.lawmid.ex
  obtain ⟨fR, dR, GR, bR, kR, gR⟩ := C.right.ex
  obtain ⟨fM, dM, GM, bM, kM, gM⟩ := C.ismaj.ex
  refine pstW (ps_if (PW.pt (pw_or (pt_not (pt_val (pe_call GR (hr.mono (by decide)) rfl gR kR bR .nil pass0 (pa_cons (pv 3) (pa_cons (pe_call GW (hr.mono (by decide)) rfl gW kW bW .nil pass0 (pa_cons (pv 3) (pa_cons (pv 10) pa_nil))) (pa_cons (pe_call GL (hr.mono (by decide)) rfl gL kL bL .nil pass0 (pa_cons (pv 9) pa_nil)) pa_nil))))))
      (pw_or (pt_cmpR (op_neD hr.units) (pv 10) (pv 9) (nomark _))
      (pw_or1 (pt_cmpR op_notBl (pe_call GM (hr.mono (by decide)) rfl gM kM bM .nil pass0 (pa_cons (pv 3) (pa_cons (pe_call GW (hr.mono (by decide)) rfl gW kW bW .nil pass0 (pa_cons (pv 3) (pa_cons (pv 9) pa_nil))) pa_nil))) pe_bl (nomark _)))))) (pss_one (ps_ret pe_bl)) pss_nil) fun D σ H hq => ?_
  obtain ⟨⟨A, O, L, ms, os, h3, h9, h10, hA, ok, hO, hL, hp⟩, k⟩ := hq
  refine ⟨_, h3, _, h3, _, h10, ms, os, ⟨A, L, rfl, hA, ok, hL, hp⟩, fun M H1 nM hM s1 => ⟨_, h9, O, ms, os, rfl, s1 _ _ hO, ok, hp, fun N H2 nN hN s2 => ?_⟩⟩
  have MN : M ≠ N := fun e => by
    rw [← e, hM] at nN
    cases nN
  have s12 : Same H H2 := fun b o e => s2 _ _ (s1 _ _ e)
  refine ⟨A, M, N, ms, midOf os, rfl, s12 _ _ hA, ok, MN, s2 _ _ hM, hN, leaf_in (mid_in hp), fun H3 b3 => ⟨true, rfl, ?_⟩⟩
  refine iteF ?_
  have s3 : Same H H3 := fun b o e => b3 _ _ (ne_of_none e nM) (s12 _ _ e)
  have words : ∀ z ∈ os, WordOk z := fun z hz => ok.2.2.2 z (hp.mem_iff.mp hz)
  refine ⟨_, h10, _, h9, strsD os, strsD os, .lst (SqL.of (s3 _ _ hL)) (dp_strs os), .lst (SqL.of (s3 _ _ hO)) (dp_strs os), strsD_shaped words, strsD_shaped words, _, rfl, ?_⟩
  rw [show PyData.eqv (strsD os) (strsD os) = true from SeqAt.eqv_refl _ (strsD_lay os words)]
  refine iteF ?_
  refine ⟨_, h3, _, h3, _, h9, ms, os, ⟨A, O, rfl, s3 _ _ hA, ok, s3 _ _ hO, hp⟩, fun M2 H4 nM2 hM2 s4 => ⟨ms, _, ⟨A, M2, rfl, s4 _ _ (s3 _ _ hA), ok, way_in hM2 (mid_in hp)⟩, fun H5 s5 => ?_⟩⟩
  refine ⟨_, true, rfl, rfl, false, by rw [majB_mid ok hp] <;> rfl, ?_⟩
  refine iteF ?_
  exact k _ _ ⟨fun b o e => s5 _ _ (s4 _ _ (s3 _ _ e)), rfl⟩
/-- how many majorities -/
theorem st_many (C : Cals P w K mg base) (T : Nm mg) (hr : RoomL A0 s0 f cdv) : PS (LX P w K mg base f cdv A0 outer s0 H0 E) (stK 7)
    (tSt (fun σ H => ∃ (A : Addr) (ms : List Str), σ[2]? = some (some (.int ms.length)) ∧ σ[3]? = some (some (.ref A)) ∧ σ[11]? = some (some (.int (if ms.length = 3 then 729 else 1))) ∧ H A = some (.lst (ms.map V.str)) ∧ MarksOk ms)
      fun σ H σ' H' => Same H H' ∧ σ' = σ) := by
  obtain ⟨fN, dN, GN, bN, kN, gN⟩ := C.many.ex
  obtain ⟨fE, dE, GE, bE, kE, gE⟩ := C.exact4.ex
  refine pstW (ps_if (PW.pt (pw_and (pt_cmpR op_lt (pv 2) pe_int (nomark _)) (pw_and1 (pt_not (pt_val (pe_call GE (hr.mono (by decide)) rfl gE kE bE .nil pass0 (pa_cons (pe_call GN (hr.mono (by decide)) rfl gN kN bN .nil pass0 (pa_cons (pv 3) pa_nil)) (pa_cons (pv 11) pa_nil)))))))) (pss_one (ps_ret pe_bl)) pss_nil) fun D σ H hq => ?_
  obtain ⟨⟨A, ms, h2, h3, h11, hA, ok⟩, k⟩ := hq
  refine ⟨_, h2, _, _, rfl, rfl, decide ((ms.length : Int) < 4), rfl, ?_⟩
  by_cases h4 : (ms.length : Int) < 4
  · rw [decide_eq_true h4]
    refine iteT ?_
    refine ⟨_, h3, A, ms, rfl, hA, ok, by omega, fun H1 s1 => ⟨_, h11, [], _, _, rfl, ?_, fun H2 s2 => ⟨true, rfl, ?_⟩⟩⟩
    · rw [free_len ok (by omega)]
      exact Ex.leaf rfl
    refine iteF ?_
    exact k _ _ ⟨fun b o e => s2 _ _ (s1 _ _ e), rfl⟩
  · rw [decide_eq_false h4]
    refine iteF ?_
    exact k _ _ ⟨fun b o e => e, rfl⟩
end
end Yt

set_option Elab.async false
set_option linter.all false
set_option maxRecDepth 100000
set_option maxHeartbeats 2000000
namespace Yt
open PySem PySem.Spec PyProof.Rows L2
/-! ### what a number gives, put into a drawn majority -/
def dig (ms : List Str) (n i : Nat) : V := (ms.map V.str).getD (n / ms.length ^ i % ms.length) .non
theorem digs_at (ms : List Str) : ∀ (L : List (List Key)) (n i : Nat) (k : List Key), L[i]? = some k → (digs ms L n)[i]? = some (k, dig ms n i)
  | [], _, _, _, h => by simp at h
  | x :: r, n, 0, k, h => by
    cases Option.some.inj h
    simp [digs, dig]
  | x :: r, n, i + 1, k, h => by
    have := digs_at ms r (n / ms.length) i k (by simpa using h)
    rw [digs, List.getElem?_cons_succ, this]
    unfold dig
    rw [Nat.div_div_eq_div_mul, ← Nat.pow_succ']
/-- a way with another value at one row -/
def putG (g : List Key → V) (k : List Key) (v : V) : List Key → V := fun j => if j = k then v else g j
theorem putK_way {ms : List Str} {g : List Key → V} {k : List Key} {v : V} (hk : k ∈ growN ms 3) : putK (wayOf ms g) k v = wayOf ms (putG g k v) := by
  unfold putK wayOf
  rw [if_pos]
  · rw [List.map_map]
    refine List.map_congr_left fun j hj => ?_
    show (if (j, g j).1 = k then ((j, g j).1, v) else (j, g j)) = (j, putG g k v j)
    unfold putG
    by_cases e : j = k
    · rw [if_pos e, if_pos e]
    · rw [if_neg e, if_neg e]
  · rw [List.any_eq_true]
    exact ⟨(k, g k), List.mem_map.mpr ⟨k, hk, rfl⟩, decide_eq_true rfl⟩
theorem way_list {ms : List Str} (hm : MarksOk ms) {m : List (List Key × V)} (h : m.map (·.1) = growN ms 3) : m = wayOf ms fun k => (valV m k).getD .non := by
  have nd : (m.map (·.1)).Nodup := by
    rw [h]
    exact growN_nodup hm.2.2.1.nodup 3
  unfold wayOf
  rw [← h, List.map_map]
  refine List.ext_getElem? fun i => ?_
  rw [List.getElem?_map]
  cases e : m[i]? with
  | none => rfl
  | some p =>
    obtain ⟨k, v⟩ := p
    show _ = some (k, (valV m k).getD .non)
    rw [valV_at nd e]
    rfl
theorem majG_free {ms : List Str} (hm : MarksOk ms) {n i : Nat} {k : List Key} (h : (freeK ms).reverse[i]? = some k) : majG ms n k = dig ms n i := by
  have hf : k ∈ freeK ms := List.mem_reverse.mp (List.mem_of_getElem? h)
  have ht : twK k = .non := by
    have := (List.mem_filter.mp hf).2
    unfold isFree at this
    exact of_decide_eq_true this
  have nd : ((digs ms (freeK ms).reverse n).map (·.1)).Nodup := by
    rw [digs_keys]
    exact (List.reverse_perm (freeK ms)).nodup_iff.mpr (List.Pairwise.filter _ (growN_nodup hm.2.2.1.nodup 3))
  unfold majG
  rw [if_pos ht, valV_at nd (digs_at ms _ n i k h)]
  rfl
end Yt

set_option Elab.async false
set_option linter.all false
set_option maxRecDepth 100000
set_option maxHeartbeats 2000000
namespace Yt
open PySem PySem.Spec PyProof.Rows L2
theorem Paired.rev {α β : Type} {R : α → β → Prop} : ∀ {xs : List α} {ys : List β}, Paired R xs ys → Paired R xs.reverse ys.reverse
  | _, _, .nil => .nil
  | _, _, .cons h t => by
    rw [List.reverse_cons, List.reverse_cons]
    exact Paired.snoc (Paired.rev t) h
def tNum : TS := fun D σ H => ∃ (a : V) (p A Th Fr : Addr) (ms : List Str) (ts fs : List Addr) (g : Nat) (v6 v7 v8 v9 v10 v12 v13 v14 v15 v16 v17 : Option V),
  σ = [some a, some (.ref p), some (.int ms.length), some (.ref A), some (.ref Th), some (.ref Fr), v6, v7, v8, v9, v10, some (.int (if ms.length = 3 then 729 else 1)), v12, v13, v14, v15, v16, v17] ∧ Scene H A Th Fr ms ts fs ∧ PurseAt H p (g + 502) ∧
  ∀ (w6 w7 w8 w12 : Option V) (H' : Hp), PurseAt H' p g → But p H H' → D.nx [some a, some (.ref p), some (.int ms.length), some (.ref A), some (.ref Th), some (.ref Fr), w6, w7, w8, v9, v10, some (.int (if ms.length = 3 then 729 else 1)), w12, v13, v14, v15, v16, v17] H'
section
variable {P : Program} {w : World} {K : PySem.W.Frag} {mg : Str → Option Value} {base : Heap} {f : Addr} {fd : FuncData} {cdv : Value} {A0 : Around} {outer : List Env} {s0 : Shared} {H0 : Hp} {E : XK}
theorem st_numbers (C : Cals P w K mg base) (T : Nm mg) (hr : RoomL A0 s0 f cdv) : PS (LX P w K mg base f cdv A0 outer s0 H0 E) (stK 8) tNum := by
  obtain ⟨fD, dD, GD, bD, kD, gD⟩ := C.draw.ex
  obtain ⟨fJ, dJ, GJ, bJ, kJ, gJ⟩ := C.lawmaj.ex
  obtain ⟨fA, dA, GA, bA, kA, gA⟩ := C.majat.ex
  obtain ⟨fR, dR, GR, bR, kR, gR⟩ := C.right.ex
  obtain ⟨fM, dM, GM, bM, kM, gM⟩ := C.ismaj.ex
  have hu := hu_of hr
  refine pstW (ps_for PassesOwn.never rfl (pi_list (pe_ifExp (pt_cmpR op_lt (pv 2) pe_int (nomark _))
        (pe_lst (pa_cons pe_int (pa_cons (pe_op op_sub (pv 11) pe_int) (pa_cons (pe_call GD (hr.mono (by decide)) rfl gD kD bD .nil pass0 (pa_cons (pv 1) (pa_cons (pv 11) pa_nil))) (pa_cons (pe_call GD (hr.mono (by decide)) rfl gD kD bD .nil pass0 (pa_cons (pv 1) (pa_cons (pv 11) pa_nil))) pa_nil)))))
        (pe_lst pa_nil))) (pg_name (i := 6) scLaw.nd rfl (Or.inr rfl))
      (pss_cons (ps_par (i := 12) (j := 8) (by rfl) scLaw.nd rfl rfl (by decide) rfl rfl (pa_cons (pv 6) (pa_cons (pe_call GJ (hr.mono (by decide)) rfl gJ kJ bJ .nil pass0 (pa_cons (pv 1) (pa_cons (pv 3) pa_nil))) pa_nil)) (by rfl))
      (pss_cons (ps_for PassesOwn.never rfl (pi_list (pe_revL (pv 5))) (pg_name (i := 7) scLaw.nd rfl (Or.inl rfl))
        (pss_cons (ps_dput hu (pv 8) (pv 7) (pe_ix ix_list (pv 3) (pe_op op_mod (pe_callTy call_int1 (by rfl) T.int (by decide +kernel) (pa_cons (pv 12) pa_nil)) (pv 2)) (fun _ _ => rfl)) rfl)
        (pss_one (ps_set (i := 12) scLaw.nd rfl (Or.inl rfl) (pe_op op_fdiv (pv 12) (pv 2))))))
      (pss_one (ps_if (PW.pt (pw_or (pt_not (pt_val (pe_call GR (hr.mono (by decide)) rfl gR kR bR .nil pass0 (pa_cons (pv 3) (pa_cons (pe_call GA hr rfl gA kA bA .nil pass0 (pa_cons (pv 3) (pa_cons (pv 6) pa_nil))) (pa_cons (pv 8) pa_nil))))))
        (pw_or1 (pt_cmpR op_notBl (pe_call GM (hr.mono (by decide)) rfl gM kM bM .nil pass0 (pa_cons (pv 3) (pa_cons (pv 8) pa_nil))) pe_bl (nomark _))))) (pss_one (ps_ret pe_bl)) pss_nil))))) fun D σ H hq => ?_
  obtain ⟨a, p, A, Th, Fr, ms, ts, fs, g, v6, v7, v8, v9, v10, v12, v13, v14, v15, v16, v17, rfl, S, hP, k⟩ := hq
  refine ⟨_, rfl, _, _, rfl, rfl, decide ((ms.length : Int) < 4), rfl, ?_⟩
  by_cases h4 : (ms.length : Int) < 4
  · rw [decide_eq_true h4]
    refine iteT ?_
    have hM := free_len S.ok (by omega)
    have l0 := S.ok.1
    obtain ⟨M, eM⟩ : ∃ M : Int, M = if ms.length = 3 then 729 else 1 := ⟨_, rfl⟩
    have hM2 : 1 ≤ M ∧ M ≤ 729 := by
      rw [eM]
      split <;> omega
    rw [← eM] at hM k ⊢
    have Ap : A ≠ p := purse_ne hP S.a
    refine ⟨_, rfl, _, _, rfl, rfl, _, rfl, _, rfl, p, g + 501, M, rfl, hP, ⟨by omega, by omega⟩, fun r1 H1 r10 r11 hP1 hB1 => ⟨_, rfl, _, rfl, p, g + 500, M, rfl, hP1, ⟨by omega, by omega⟩, fun r2 H2 r20 r21 hP2 hB2 => ⟨(by show 4 ≤ sizeLine; decide), fun N nN => ?_⟩⟩⟩
    have sN := same_new (o := .lst [V.int 0, V.int (M - 1), V.int r1, V.int r2]) nN
    have hPN : PurseAt (upd H2 N (.lst [V.int 0, V.int (M - 1), V.int r1, V.int r2])) p (g + 500) := hP2.to fun o e => sN _ _ e
    have bN : But p H (upd H2 N (.lst [V.int 0, V.int (M - 1), V.int r1, V.int r2])) := fun b o n e => sN _ _ (hB2 _ _ n (hB1 _ _ n e))
    have SN := S.but hP bN
    have hN : (upd H2 N (.lst [V.int 0, V.int (M - 1), V.int r1, V.int r2])) N = some (.lst [V.int 0, V.int (M - 1), V.int r1, V.int r2]) := upd_same
    have Np : N ≠ p := fun e => by
      obtain ⟨o, q⟩ := hP2.some
      rw [e, q] at nN
      cases nN
    generalize upd H2 N (.lst [V.int 0, V.int (M - 1), V.int r1, V.int r2]) = HN at hPN bN SN hN
    refine ⟨N, rfl, ⟨_, SqL.of hN⟩, for_list (K := K) (a := N) (xs := [V.int 0, V.int (M - 1), V.int r1, V.int r2]) (fun i σ Hc => ∃ w6 w7 w8 w12 : Option V, σ = [some a, some (.ref p), some (.int ms.length), some (.ref A), some (.ref Th), some (.ref Fr), w6, w7, w8, v9, v10, some (.int M), w12, v13, v14, v15, v16, v17] ∧ Scene Hc A Th Fr ms ts fs ∧ PurseAt Hc p (g + 125 * (4 - i)) ∧ But p HN Hc)
      ⟨v6, v7, v8, v12, rfl, SN, hPN, But.refl p HN⟩ (fun i σ Hc _ ⟨_, _, _, _, _, _, _, z⟩ => SqL.of (z _ _ Np hN)) ?_ ?_⟩
    · rintro i u σ Hc hi ⟨w6, w7, w8, w12, rfl, Sc, hPc, hBc⟩
      have i4 : i < 4 := (List.getElem?_eq_some_iff.mp hi).1
      obtain ⟨n, rfl, hn⟩ : ∃ n : Nat, u = V.int n ∧ (n : Int) < M := by
        match i, i4 with
        | 0, _ => exact ⟨0, (Option.some.inj hi).symm, by omega⟩
        | 1, _ => exact ⟨(M - 1).toNat, by rw [Int.toNat_of_nonneg (by omega)]; exact (Option.some.inj hi).symm, by omega⟩
        | 2, _ => exact ⟨r1.toNat, by rw [Int.toNat_of_nonneg r10]; exact (Option.some.inj hi).symm, by omega⟩
        | 3, _ => exact ⟨r2.toNat, by rw [Int.toNat_of_nonneg r20]; exact (Option.some.inj hi).symm, by omega⟩
      have fuel : g + 125 * (4 - i) = (g + 125 * (4 - (i + 1))) + 125 := by omega
      rw [fuel] at hPc
      refine ⟨_, rfl, _, rfl, _, rfl, p, A, ms, g + 125 * (4 - (i + 1)), rfl, Ap, Sc.a, Sc.ok, hPc, fun d m H3 nd0 hd hk hv hP3 hB3 => ⟨_, _, rfl, ?_⟩⟩
      have S3 := Sc.but hPc hB3
      obtain ⟨g0, eg0⟩ : ∃ g0 : List Key → V, g0 = fun k => (valV m k).getD .non := ⟨_, rfl⟩
      rw [way_list Sc.ok hk, ← eg0] at hd
      have hv0 : ∀ k ∈ growN ms 3, MajV ms k (g0 k) := fun k hk2 => by
        rw [eg0]
        show MajV ms k ((valV m k).getD .non)
        rw [← hk] at hk2
        obtain ⟨e, he, rfl⟩ := List.mem_map.mp hk2
        obtain ⟨j, ej⟩ := List.mem_iff_getElem?.mp he
        rw [valV_at (by rw [hk]; exact growN_nodup Sc.ok.2.2.1.nodup 3) ej]
        exact hv e he
      have dp : d ≠ p := purse_nd hP3 hd
      refine ⟨_, rfl, Fr, _, rfl, SqL.of S3.fr, fun R nR => ?_⟩
      have sR := same_new (o := .lst (fs.map V.ref).reverse) nR
      have S4 := S3.to sR
      have hd4 := sR _ _ hd
      have hP4 : PurseAt (upd H3 R (.lst (fs.map V.ref).reverse)) p (g + 125 * (4 - (i + 1))) := hP3.to fun o e => sR _ _ e
      have hR : (upd H3 R (.lst (fs.map V.ref).reverse)) R = some (.lst (fs.map V.ref).reverse) := upd_same
      have Rd : R ≠ d := fun e => by
        rw [e, hd] at nR
        cases nR
      have b4 : But p Hc (upd H3 R (.lst (fs.map V.ref).reverse)) := fun b o ne e => sR _ _ (hB3 _ _ ne e)
      generalize upd H3 R (.lst (fs.map V.ref).reverse) = H4 at S4 hd4 hP4 hR b4
      have frp := Paired.rev S4.fp
      refine ⟨R, rfl, ⟨_, SqL.of hR⟩, for_list (K := K) (a := R) (xs := (fs.map V.ref).reverse) (fun j σ Hd => ∃ (w7 : Option V) (gg : List Key → V), σ = [some a, some (.ref p), some (.int ms.length), some (.ref A), some (.ref Th), some (.ref Fr), some (.int n), w7, some (.ref d), v9, v10, some (.int M), some (.int ((n / ms.length ^ j : Nat) : Int)), v13, v14, v15, v16, v17] ∧ Hd d = some (.dT (wayOf ms gg)) ∧
          (∀ k ∈ growN ms 3, (∀ l, l < j → (freeK ms).reverse[l]? ≠ some k) → MajV ms k (gg k)) ∧ (∀ l, l < j → ∀ k, (freeK ms).reverse[l]? = some k → gg k = dig ms n l) ∧ But d H4 Hd)
        ⟨w7, g0, by rw [Nat.pow_zero, Nat.div_one] <;> rfl, hd4, fun k hk2 _ => hv0 k hk2, (fun l hl => by omega), But.refl d H4⟩ (fun j σ Hd _ ⟨_, _, _, _, _, _, z⟩ => SqL.of (z _ _ Rd hR)) ?_ ?_⟩
      · rintro j x σ Hd hj ⟨w7, gg, rfl, hdd, hmaj, hdig, hBd⟩
        rw [← List.map_reverse, List.getElem?_map] at hj
        obtain ⟨t, et, rfl⟩ := Option.map_eq_some_iff.mp hj
        obtain ⟨kk, ek, ht4⟩ := paired_at' frp et
        have kf : kk ∈ freeK ms := List.mem_reverse.mp (List.mem_of_getElem? ek)
        have kg : kk ∈ growN ms 3 := (List.mem_filter.mp kf).1
        have td : t ≠ d := fun e => by
          have z : H4 t = some (.tup _) := ht4
          rw [e, hd4] at z
          cases z
        have ht : TupAt Hd t kk := hBd _ _ td ht4
        have Ad : A ≠ d := fun e => by
          have z := S4.a
          rw [e, hd4] at z
          cases z
        have hAd := hBd _ _ Ad S4.a
        have lt : n / ms.length ^ j % ms.length < (ms.map V.str).length := by
          rw [List.length_map]
          exact Nat.mod_lt _ l0
        have hv' := List.getElem?_eq_getElem lt
        have ev : dig ms n j = (ms.map V.str)[n / ms.length ^ j % ms.length] := by
          unfold dig
          rw [List.getD_eq_getElem?_getD, hv'] <;> rfl
        have e1 : (((n / ms.length ^ j : Nat) : Int) / ((ms.length : Nat) : Int)) = ((n / ms.length ^ (j + 1) : Nat) : Int) := by
          rw [← Int.natCast_ediv, Nat.div_div_eq_div_mul, ← Nat.pow_succ]
        have few : (wayOf ms gg).length < sizeLine := by
          unfold wayOf
          rw [List.length_map]
          exact len_ok (by have := S4.few; omega)
        refine ⟨_, rfl, _, rfl, .inl ⟨_, rfl, _, rfl, _, _, rfl, rfl, (show (0 : Int) < ((ms.length : Nat) : Int) by omega), A, ms.map V.str, _, dig ms n j, rfl, rfl, SqL.of hAd, ?_, ?_⟩⟩
        · rw [← Int.natCast_emod, ev]
          exact atI_nat hv'
        refine ⟨_, rfl, _, rfl, d, _, rfl, DPut.t (k := kk) hdd ht few, ?_⟩
        rw [putK_way kg]
        refine ⟨_, rfl, _, rfl, _, _, rfl, rfl, ⟨by omega, by have := S4.ok.2.1; omega⟩, ?_⟩
        refine ⟨some (.ref t), putG gg kk (dig ms n j), congrArg (fun q : Int => [some a, some (V.ref p), some (V.int ms.length), some (.ref A), some (.ref Th), some (.ref Fr), some (.int n), some (.ref t), some (.ref d), v9, v10, some (.int M), some (V.int q), v13, v14, v15, v16, v17]) e1, upd_same, fun k2 hk2 hno => ?_, fun l hl k2 hk2 => ?_, fun b o ne e => (upd_ne ne).trans (hBd _ _ ne e)⟩
        · unfold putG
          rw [if_neg (fun e => hno j (Nat.lt_succ_self j) (by rw [ek, e]))]
          exact hmaj k2 hk2 fun l hl => hno l (by omega)
        · unfold putG
          have nd1 : ((freeK ms).reverse).Nodup := (List.reverse_perm (freeK ms)).nodup_iff.mpr (List.Pairwise.filter _ (growN_nodup S4.ok.2.2.1.nodup 3))
          by_cases e : l = j
          · subst e
            rw [ek] at hk2
            cases hk2
            rw [if_pos rfl]
          · have ne : k2 ≠ kk := fun q => by
              obtain ⟨l1, g1⟩ := List.getElem?_eq_some_iff.mp hk2
              obtain ⟨l2, g2⟩ := List.getElem?_eq_some_iff.mp ek
              have := List.pairwise_iff_getElem.mp nd1 l j l1 l2 (by omega)
              rw [g1, g2] at this
              exact this q
            rw [if_neg ne]
            exact hdig l (by omega) k2 hk2
      · rintro σ Hd ⟨w7, gg, rfl, hdd, hmaj, hdig, hBd⟩
        have fl : (fs.map V.ref).reverse.length = (freeK ms).reverse.length := by
          rw [List.length_reverse, List.length_map, List.length_reverse]
          exact Paired.length S4.fp
        have same : wayOf ms gg = wayOf ms (majG ms n) := by
          unfold wayOf
          refine List.map_congr_left fun k2 hk2 => ?_
          congr 1
          by_cases hfree : k2 ∈ freeK ms
          · obtain ⟨l, el⟩ := List.mem_iff_getElem?.mp (List.mem_reverse.mpr hfree)
            rw [majG_free S4.ok el]
            exact hdig l (by rw [fl]; exact (List.getElem?_eq_some_iff.mp el).1) k2 el
          · have mv := hmaj k2 hk2 fun l _ e => hfree (List.mem_reverse.mp (List.mem_of_getElem? e))
            have nt : twK k2 ≠ .non := fun e => hfree (List.mem_filter.mpr ⟨hk2, by unfold isFree; exact decide_eq_true e⟩)
            rw [mv.1 nt]
            unfold majG
            rw [if_neg nt]
        rw [same] at hdd
        have Ad : A ≠ d := fun e => by
          have z := S4.a
          rw [e, hd4] at z
          cases z
        have Td : Th ≠ d := fun e => by
          have z := S4.th
          rw [e, hd4] at z
          cases z
        have Fd : Fr ≠ d := fun e => by
          have z := S4.fr
          rw [e, hd4] at z
          cases z
        have tup : ∀ {t : Addr} {k : List Key}, TupAt H4 t k → TupAt Hd t k := fun {t k} h => hBd _ _ (fun e => by
          have z : H4 t = some (.tup _) := h
          rw [e, hd4] at z
          cases z) h
        have S5 : Scene Hd A Th Fr ms ts fs := ⟨hBd _ _ Ad S4.a, S4.ok, hBd _ _ Td S4.th, Paired.mapP S4.tp fun _ _ h => tup h, hBd _ _ Fd S4.fr, Paired.mapP S4.fp fun _ _ h => tup h⟩
        have hP5 : PurseAt Hd p (g + 125 * (4 - (i + 1))) := hP4.to fun o e => hBd _ _ dp.symm e
        have leaf := leaf_in (majG_in S4.ok n)
        refine ⟨_, rfl, _, rfl, _, rfl, A, ms, n, rfl, S5.a, S5.ok, by omega, by omega, fun L H6 nL hL s6 => ⟨_, rfl, ?_⟩⟩
        have Ld : L ≠ d := fun e => by
          rw [e, hdd] at nL
          cases nL
        refine ⟨A, L, d, ms, majG ms n, rfl, s6 _ _ S5.a, S5.ok, Ld, hL, s6 _ _ hdd, leaf, fun H7 b7 => ⟨true, rfl, ?_⟩⟩
        refine iteF ?_
        have s57 : Same Hd H7 := fun b o e => b7 _ _ (ne_of_none e nL) (s6 _ _ e)
        refine ⟨_, rfl, _, rfl, ms, _, ⟨A, d, rfl, s57 _ _ S5.a, S5.ok, way_in (s57 _ _ hdd) (majG_in S5.ok n)⟩, fun H8 s8 => ?_⟩
        refine ⟨_, true, rfl, rfl, false, by rw [majB_majG S5.ok n] <;> rfl, ?_⟩
        refine iteF ?_
        have s58 : Same Hd H8 := fun b o e => s8 _ _ (s57 _ _ e)
        refine ⟨_, _, _, _, rfl, S5.to s58, hP5.to fun o e => s58 _ _ e, fun b o ne e => s58 _ _ ?_⟩
        have q4 := b4 _ _ ne (hBc _ _ ne e)
        have qc := hBc _ _ ne e
        by_cases bd : b = d
        · subst bd
          rw [nd0] at qc
          cases qc
        · exact hBd _ _ bd q4
    · rintro σ Hc ⟨w6, w7, w8, w12, rfl, Sc, hPc, hBc⟩
      exact k _ _ _ _ _ (hPc.less (by omega)) fun b o ne e => hBc _ _ ne (bN _ _ ne e)
  · rw [decide_eq_false h4]
    refine iteF ?_
    refine ⟨(by show 0 ≤ sizeLine; decide), fun N nN => ⟨N, rfl, ⟨_, SqL.of upd_same⟩, for_list (K := K) (a := N) (xs := []) (fun i σ Hc => σ = [some a, some (.ref p), some (.int ms.length), some (.ref A), some (.ref Th), some (.ref Fr), v6, v7, v8, v9, v10, some (.int (if ms.length = 3 then 729 else 1)), v12, v13, v14, v15, v16, v17] ∧ Hc = upd H N (.lst []))
      ⟨rfl, rfl⟩ (fun i σ Hc _ q => by rw [q.2]; exact SqL.of upd_same) (fun i x σ Hc hi _ => by simp at hi) ?_⟩⟩
    rintro σ Hc ⟨rfl, rfl⟩
    have sN := same_new (o := .lst []) nN
    exact k _ _ _ _ _ ((hP.to fun o e => sN _ _ e).less (by omega)) (Same.but sN)
end
end Yt

set_option Elab.async false
set_option linter.all false
set_option maxRecDepth 100000
set_option maxHeartbeats 2000000
namespace Yt
open PySem PySem.Spec PyProof.Rows L2
def tTurn : TS := fun D σ H => ∃ (a : V) (p A Th Fr : Addr) (ms : List Str) (ts fs : List Addr) (g : Nat) (v6 v7 v8 v9 v10 v11 v12 v13 v14 v15 v16 v17 : Option V),
  σ = [some a, some (.ref p), some (.int ms.length), some (.ref A), some (.ref Th), some (.ref Fr), v6, v7, v8, v9, v10, v11, v12, v13, v14, v15, v16, v17] ∧ Scene H A Th Fr ms ts fs ∧ PurseAt H p (g + 900) ∧
  ∀ (w13 w14 w17 : Option V) (H' : Hp), PurseAt H' p g → But p H H' → D.nx [some a, some (.ref p), some (.int ms.length), some (.ref A), some (.ref Th), some (.ref Fr), v6, v7, v8, v9, v10, v11, v12, w13, w14, v15, v16, w17] H'
/-- a drawn row -/
def tRow : TE := fun σ H Q => ∃ (a0 : Option V) (p A : Addr) (t : Nat) (ms : List Str) (g : Nat) (u2 u4 u5 u6 u7 u8 u9 u10 u11 u12 u14 u15 u16 u17 : Option V), σ = [a0, some (.ref p), u2, some (.ref A), u4, u5, u6, u7, u8, u9, u10, u11, u12, some (.int t), u14, u15, u16, u17] ∧
  H A = some (.lst (ms.map V.str)) ∧ MarksOk ms ∧ t < 3 ∧ PurseAt H p (g + 3) ∧ ∀ (T : Addr) (H' : Hp) (zs : List Str), H T = none → RowAt H' T zs → zs.length = t + 1 → (∀ z ∈ zs, z ∈ ms) → PurseAt H' p g → But p H H' → Q (.ref T) H'
theorem paired_flip {α β : Type} {R : α → β → Prop} : ∀ {xs : List α} {ys : List β}, Paired R xs ys → Paired (fun y x => R x y) ys xs
  | _, _, .nil => .nil
  | _, _, .cons h t => .cons h (paired_flip t)
theorem paired_perm {R : Addr → List Key → Prop} {xs zs : List V} (hp : xs.Perm zs) : ∀ (ts : List Addr) (L : List (List Key)), zs = ts.map V.ref → Paired R ts L → ∃ (ts' : List Addr) (L' : List (List Key)), xs = ts'.map V.ref ∧ Paired R ts' L' ∧ L'.Perm L := by
  induction hp with
  | nil =>
    intro ts L e h
    cases ts with
    | nil => exact ⟨[], L, rfl, h, List.Perm.refl L⟩
    | cons t ts => cases e
  | cons x _ ih =>
    intro ts L e h
    cases h with
    | nil => cases e
    | cons h t =>
      rw [List.map_cons, List.cons.injEq] at e
      obtain ⟨ts', L', e1, h1, p1⟩ := ih _ _ e.2 t
      exact ⟨_ :: ts', _ :: L', by rw [e.1, e1] <;> rfl, .cons h h1, .cons _ p1⟩
  | swap x y l =>
    intro ts L e h
    cases h with
    | nil => cases e
    | cons h t =>
      cases t with
      | nil => cases e
      | cons h' t =>
        rw [List.map_cons, List.map_cons, List.cons.injEq, List.cons.injEq] at e
        exact ⟨_ :: _ :: _, _ :: _ :: _, by rw [e.1, e.2.1, e.2.2] <;> rfl, .cons h' (.cons h t), .swap _ _ _⟩
  | trans _ _ ih1 ih2 =>
    intro ts L e h
    obtain ⟨ts2, L2, e2, h2, p2⟩ := ih2 _ _ e h
    obtain ⟨ts1, L1, e1, h1, p1⟩ := ih1 _ _ e2 h2
    exact ⟨ts1, L1, e1, h1, p1.trans p2⟩
theorem paired_leaf {H : Hp} {n : Nat} {A : List Addr} : ∀ {xs : List V}, (∀ x ∈ xs, leafV x = true) → Paired (Ex H n A) xs xs
  | [], _ => .nil
  | x :: xs, h => .cons (Ex.leaf (h x List.mem_cons_self)) (paired_leaf fun y hy => h y (List.mem_cons_of_mem _ hy))
theorem val_leaf {m : List (List Key × V)} (h : ∀ e ∈ m, leafV e.2 = true) (k : List Key) : leafV ((valV m k).getD .non) = true := by
  unfold valV
  cases e : m.find? fun kv => decide (kv.1 = k) with
  | none => rfl
  | some p => exact h p (List.mem_of_find?_eq_some e)
theorem gift_leaf {m : List (List Key × V)} (h : ∀ e ∈ m, leafV e.2 = true) : ∀ xs ys zs : List Str, ∀ v ∈ giftL m xs ys zs, leafV v = true
  | x :: xs, y :: ys, z :: zs, v, hv => by
    rcases List.mem_cons.mp hv with rfl | hv
    · exact val_leaf h _
    · exact gift_leaf h xs ys zs v hv
  | [], _, _, _, hv => by simp [giftL] at hv
  | _ :: _, [], _, _, hv => by simp [giftL] at hv
  | _ :: _, _ :: _, [], _, hv => by simp [giftL] at hv
theorem giftL_whole (m : List (List Key × V)) : ∀ (xs ys zs : List Str), ys.length = xs.length → zs.length = xs.length → (giftL m xs ys zs).length = xs.length
  | [], _, _, _, _ => rfl
  | _ :: _, [], _, e, _ => by cases e
  | _ :: _, _ :: _, [], _, e => by cases e
  | x :: xs, y :: ys, z :: zs, e1, e2 => by
    have := giftL_whole m xs ys zs (Nat.succ.inj e1) (Nat.succ.inj e2)
    show _ + 1 = _ + 1
    rw [this]
abbrev scLate : Scope := { kind := .function, names := [(".0", .local), ("_law_late", .local), ("tuple", .globalImplicit), ("range", .globalImplicit), ("_law_marks_here", .free), ("_law_purse_here", .free), ("_law_turn", .free)], isGenerator := false, isCoroutine := false, more := [] }
section
variable {P : Program} {w : World} {K : PySem.W.Frag} {mg : Str → Option Value} {base : Heap} {f : Addr} {fd : FuncData} {cdv : Value} {A0 : Around} {outer : List Env} {s0 : Shared} {H0 : Hp} {E : XK}
theorem st_turns (C : Cals P w K mg base) (T : Nm mg) (T6 : Nm6 mg) (hr : RoomL A0 s0 f cdv) : PS (LX P w K mg base f cdv A0 outer s0 H0 E) (stK 9) tTurn := by
  obtain ⟨fO, dO, GO, bO, kO, gO⟩ := C.one.ex
  obtain ⟨fS, dS, GS, bS, kS, gS⟩ := C.shuf.ex
  obtain ⟨fE, dE, GE, bE, kE, gE⟩ := C.exact4.ex
  obtain ⟨fW, dW, GW, bW, kW, gW⟩ := C.isway.ex
  obtain ⟨fM, dM, GM, bM, kM, gM⟩ := C.ismaj.ex
  obtain ⟨fJ, dJ, GJ, bJ, kJ, gJ⟩ := C.ismajor.ex
  obtain ⟨fG, dG, GG, bG, kG, gG⟩ := C.giftof.ex
  have hu := hu_of hr
  have hu2 := units2 hr
  refine pstW (ps_for PassesOwn.never rfl (pi_range1 rfl T.range (pa_cons pe_int pa_nil)) (pg_name (i := 13) scLaw.nd rfl (Or.inr rfl))
      (pss_cons (ps_set (i := 14) scLaw.nd rfl (Or.inr rfl) (pe_callTy (call_dictPT rfl hu2) (by rfl) T6.dict (by decide +kernel) (pa_cons
          (pe_lc (own := [("_law_three", 7)]) (g := gName 7) (tt := tYes) (te := tTup (tCons (tVar 7) (tCons (tCall (spOne K) [] E0 (tCons (tVar 1) (tCons (tVar 3) tNil))) tNil))) rfl scLaw.nd (pi_list (pe_call GS (hr.mono (by decide)) rfl gS kS bS .nil pass0 (pa_cons (pv 1) (pa_cons (pv 4) pa_nil)))) (blkOk_by (own := [("_law_three", 7)]) (N := lawN) (sc := defScope sLaw) (by decide +kernel))
            (fun _ _ _ _ _ => pg_name (i := 7) scLaw.nd rfl (Or.inl rfl)) (fun _ _ _ _ _ => pts_nil) (fun _ _ _ _ _ => pe_tup (pa_cons (pv 7) (pa_cons (pe_call GO (hr.mono (by decide)) rfl gO kO bO .nil pass0 (pa_cons (pv 1) (pa_cons (pv 3) pa_nil))) pa_nil)))) pa_nil)))
      (pss_cons (ps_if (pt_not (pt_val (pe_call GE (hr.mono (by decide)) rfl gE kE bE .nil pass0 (pa_cons
            (pe_lst (pa_cons (pe_call GW (hr.mono (by decide)) rfl gW kW bW .nil pass0 (pa_cons (pv 3) (pa_cons (pv 14) pa_nil))) (pa_cons (pe_call GM (hr.mono (by decide)) rfl gM kM bM .nil pass0 (pa_cons (pv 3) (pa_cons (pv 14) pa_nil))) pa_nil)))
            (pa_cons (pe_lst (pa_cons pe_bl (pa_cons (pe_call GJ (hr.mono (by decide)) rfl gJ kJ bJ .nil pass0 (pa_cons (pv 3) (pa_cons (pv 14) pa_nil))) pa_nil))) pa_nil))))) (pss_one (ps_ret pe_bl)) pss_nil)
      (pss_cons (ps_set (i := 17) scLaw.nd rfl (Or.inr rfl) (pe_callTy call_tuple_of (by rfl) T6.tuple (by decide +kernel) (pa_cons
          (pe_lc (own := [("_law_late", 15)]) (g := gName 15) (tt := tYes) (te := tRow) rfl scLaw.nd (pi_range1 rfl T.range (pa_cons pe_int pa_nil)) (blkOk_by (own := [("_law_late", 15)]) (N := lawN) (sc := defScope sLaw) (by decide +kernel))
            (fun _ _ _ _ _ => pg_name (i := 15) scLaw.nd rfl (Or.inl rfl)) (fun _ _ _ _ _ => pts_nil) (fun _ _ _ _ _ => pexW (pe_callTy call_tuple_of (by rfl) T6.tuple (by decide +kernel) (pa_cons
              (pe_lc (own := [("_law_at", 16)]) (g := gName 16) (tt := tYes) (te := tCall (spOne K) [] E0 (tCons (tVar 1) (tCons (tVar 3) tNil))) rfl scLaw.nd (pi_range1 (by rfl) T.range (pa_cons (pe_op op_add pe_int (pv 13)) pa_nil)) (blkOk_by (own := [("_law_at", 16)]) (N := lawN) (sc := relS scLate (defScope sLaw)) (by decide +kernel))
                (fun _ _ _ _ _ => pg_name (i := 16) scLaw.nd rfl (Or.inl rfl)) (fun _ _ _ _ _ => pts_nil) (fun _ _ _ _ _ => pe_call GO (hr.mono (by decide)) rfl gO kO bO .nil pass0 (pa_cons (pv 1) (pa_cons (pv 3) pa_nil)))) pa_nil)) fun σ H Q hq => ?_)) pa_nil)))
      (pss_one (ps_if (pt_not (pt_val (pe_call GE (hr.mono (by decide)) rfl gE kE bE .nil pass0 (pa_cons (pe_call GG (hr.mono (by decide)) rfl gG kG bG .nil pass0 (pa_cons (pv 14) (pa_cons (pv 17) pa_nil)))
          (pa_cons (pe_callTy call_tuple_of (by rfl) T6.tuple (by decide +kernel) (pa_cons
            (pe_lc (own := [("_law_at", 16)]) (g := gName 16) (tt := tYes) (te := tDGet (tVar 14) (tTup (tCons (tOp (rIxT K) (tOp (rIxT K) (tVar 17) (tC (.int 0))) (tVar 16)) (tCons (tOp (rIxT K) (tOp (rIxT K) (tVar 17) (tC (.int 1))) (tVar 16)) (tCons (tOp (rIxT K) (tOp (rIxT K) (tVar 17) (tC (.int 2))) (tVar 16)) tNil))))) rfl scLaw.nd (pi_range1 rfl T.range (pa_cons (pe_op op_add pe_int (pv 13)) pa_nil)) (blkOk_by (own := [("_law_at", 16)]) (N := lawN) (sc := defScope sLaw) (by decide +kernel))
              (fun _ _ _ _ _ => pg_name (i := 16) scLaw.nd rfl (Or.inl rfl)) (fun _ _ _ _ _ => pts_nil) (fun _ _ _ _ _ => pe_dget hu (pv 14) (pe_tup (pa_cons (pe_ix ix_tup (pe_ix ix_tup (pv 17) pe_int (fun _ _ => rfl)) (pv 16) (fun _ _ => rfl)) (pa_cons (pe_ix ix_tup (pe_ix ix_tup (pv 17) pe_int (fun _ _ => rfl)) (pv 16) (fun _ _ => rfl)) (pa_cons (pe_ix ix_tup (pe_ix ix_tup (pv 17) pe_int (fun _ _ => rfl)) (pv 16) (fun _ _ => rfl)) pa_nil)))) (fun _ _ => rfl))) pa_nil)) pa_nil))))) (pss_one (ps_ret pe_bl)) pss_nil)))))) fun D σ H hq => ?_
  · obtain ⟨a0, p, A, t, ms, g, u2, u4, u5, u6, u7, u8, u9, u10, u11, u12, u14, u15, u16, u17, rfl, hA, ok, t3, hP, k⟩ := hq
    have Ap : A ≠ p := purse_ne hP hA
    refine ⟨_, rfl, _, _, rfl, rfl, _, rfl, (show -(2 ^ 62) ≤ (1 + (t : Int)) by omega), (show (1 + (t : Int)) < 2 ^ 62 by omega), fun D hD => ?_⟩
    have Dp : D ≠ p := fun e => by
      obtain ⟨o, q⟩ := hP.some
      rw [e, q] at hD
      cases hD
    have t1 : (1 + (t : Int)).toNat = t + 1 := by omega
    rw [t1]
    refine lc_range (lo := 0) (n := t + 1) (fun j Hx => ∃ zs : List Str, zs.length = j ∧ Hx D = some (.lst (zs.map V.str)) ∧ (∀ z ∈ zs, z ∈ ms) ∧ PurseAt Hx p (g + (3 - j)) ∧ But p H Hx) ?_ ?_ ?_
    · exact ⟨[], rfl, upd_same, (fun z hz => nomatch hz), hP.to fun o e => same_new hD _ _ e, Same.but (same_new hD)⟩
    · rintro j Hx hj ⟨zs, hl, hD1, hz, hPx, hBx⟩
      have fuel : g + (3 - j) = (g + (3 - (j + 1))) + 1 := by omega
      rw [fuel] at hPx
      refine ⟨rfl, ?_⟩
      refine ⟨_, rfl, _, rfl, p, A, _, ms.map V.str, rfl, hPx, SqL.of (hBx _ _ Ap hA), Ap, ⟨by rw [List.length_map]; exact ok.1, by rw [List.length_map]; have := ok.2.1; omega⟩, fun l x H1 ex hP1 hB1 => ?_⟩
      rw [List.getElem?_map] at ex
      obtain ⟨c, ec, rfl⟩ := Option.map_eq_some_iff.mp ex
      refine ⟨_, hB1 _ _ Dp hD1, by rw [List.length_map]; exact len_ok (by omega), zs ++ [c], by rw [List.length_append]; show zs.length + 1 = _; omega, ?_, fun z hz' => ?_, ?_, fun b o nb e => ?_⟩
      · rw [upd_same, List.map_append]
        rfl
      · rcases List.mem_append.mp hz' with h | h
        · exact hz z h
        · rw [List.mem_singleton.mp h]
          exact List.mem_of_getElem? ec
      · exact hP1.to fun o e => (upd_ne Dp.symm).trans e
      · exact (upd_ne (ne_of_none e hD)).trans (hB1 _ _ nb (hBx _ _ nb e))
    · rintro Hx ⟨zs, hl, hD1, hz, hPx, hBx⟩
      refine ⟨D, _, rfl, .inl ⟨SqL.of hD1, fun T nT => ?_⟩⟩
      have nT0 : H T = none := by
        cases e : H T with
        | none => rfl
        | some o =>
          by_cases h : T = p
          · obtain ⟨o2, q⟩ := hPx.some
            rw [h, q] at nT
            cases nT
          · rw [hBx _ _ h e] at nT
            cases nT
      refine k T _ zs nT0 upd_same hl hz ((hPx.to fun o e => same_new nT _ _ e).less (by omega)) fun b o nb e => same_new nT _ _ (hBx _ _ nb e)
  obtain ⟨a, p, A, Th, Fr, ms, ts, fs, g, v6, v7, v8, v9, v10, v11, v12, v13, v14, v15, v16, v17, rfl, S, hP, k⟩ := hq
  refine ⟨_, rfl, by decide, by decide, for_range (lo := 0) (n := 3) (fun i σ Hc => (∃ w13 w14 w17 : Option V, σ = [some a, some (.ref p), some (.int ms.length), some (.ref A), some (.ref Th), some (.ref Fr), v6, v7, v8, v9, v10, v11, v12, w13, w14, v15, v16, w17]) ∧ Scene Hc A Th Fr ms ts fs ∧ PurseAt Hc p (g + 300 * (3 - i)) ∧ But p H Hc)
    ⟨⟨_, _, _, rfl⟩, S, hP, But.refl p H⟩ ?_ ?_⟩
  · rintro t σ Hc ht ⟨⟨w13, w14, w17, rfl⟩, Sc, hPc, hBc⟩
    rw [Int.zero_add (t : Int)]
    obtain ⟨F, eF⟩ : ∃ F, F = g + 300 * (3 - (t + 1)) := ⟨_, rfl⟩
    have hPc : PurseAt Hc p (F + 300) := hPc.less (by omega)
    rw [← eF]
    have l0 := Sc.ok.1
    have l5 := Sc.ok.2.1
    have tl : ts.length ≤ 125 := by
      rw [Paired.length Sc.tp]
      exact Sc.few
    have Thp := purse_nr hPc Sc.th
    refine ⟨_, rfl, _, rfl, p, Th, F + 175, ts.map V.ref, rfl, Thp, ?_, ?_, ?_, fun L ys H1 perm nL hL hP1 hB1 => ?_⟩
    · exact hPc.less (by rw [List.length_map]; omega)
    · exact SqL.of Sc.th
    · rw [List.length_map]
      omega
    have S1 := Sc.but hPc hB1
    obtain ⟨ts', L', rfl, tp', permL⟩ := paired_perm perm ts (growN ms 3) rfl S1.tp
    have Lp : L ≠ p := fun e => by
      have := purse_nr hP1 hL
      exact this e
    have lL : L'.length ≤ 125 := by
      rw [permL.length_eq]
      exact S1.few
    refine ⟨L, rfl, ⟨_, SqL.of hL⟩, fun D1 hD1 => ?_⟩
    have D1p : D1 ≠ p := fun e => by
      obtain ⟨o, q⟩ := hP1.some
      rw [e, q] at hD1
      cases hD1
    refine lc_list (K := K) (a := L) (xs := ts'.map V.ref) (fun j Hx => ∃ (rs : List Addr) (es : List (Addr × List Key × V)), Hx D1 = some (.lst (rs.map V.ref)) ∧ Paired (fun r e => r ≠ D1 ∧ e.1 ≠ D1 ∧ Hx r = some (.tup [.ref e.1, e.2.2]) ∧ Hx e.1 = some (.tup (e.2.1.map kV)) ∧ ∃ z ∈ ms, e.2.2 = V.str z) rs es ∧ es.map (·.2.1) = L'.take j ∧ PurseAt Hx p (F + 50 + (125 - j)) ∧ But p H1 Hx)
      ⟨[], [], upd_same, .nil, rfl, (hP1.to fun o e => same_new hD1 _ _ e).less (by omega), Same.but (same_new hD1)⟩ (fun j Hx _ ⟨_, _, _, _, _, _, z⟩ => SqL.of (z _ _ Lp hL)) ?_ ?_
    · rintro j x Hx hj ⟨rs, es, q1, q2, q3, q4, q5⟩
      rw [List.getElem?_map] at hj
      obtain ⟨t0, et, rfl⟩ := Option.map_eq_some_iff.mp hj
      obtain ⟨kk, ek, ht0⟩ := paired_at' tp' et
      have j125 : j < 125 := by
        have := (List.getElem?_eq_some_iff.mp ek).1
        omega
      have t0p := purse_nt hP1 ht0
      have t0D : t0 ≠ D1 := ne_of_none ht0 hD1
      have Ap := purse_ne hP1 S1.a
      have fuel : F + 50 + (125 - j) = (F + 50 + (125 - (j + 1))) + 1 := by omega
      rw [fuel] at q4
      have lrs : rs.length = j := by
        have l1 := congrArg List.length q3
        rw [List.length_map, List.length_take] at l1
        have := (List.getElem?_eq_some_iff.mp ek).1
        rw [Paired.length q2]
        omega
      refine ⟨rfl, ?_⟩
      refine ⟨_, rfl, _, rfl, _, rfl, p, A, _, ms.map V.str, rfl, q4, SqL.of (q5 _ _ Ap S1.a), Ap, ⟨by rw [List.length_map]; exact l0, by rw [List.length_map]; omega⟩, fun l x H2 ex hP2 hB2 => ⟨(by show 2 ≤ sizeLine; decide), fun r nr => ?_⟩⟩
      rw [List.getElem?_map] at ex
      obtain ⟨c, ec, rfl⟩ := Option.map_eq_some_iff.mp ex
      have sr := same_new (o := .tup [V.ref t0, V.str c]) nr
      have rD : r ≠ D1 := fun e => by
        rw [e, hB2 _ _ D1p q1] at nr
        cases nr
      have b3 : But p Hx (upd H2 r (.tup [V.ref t0, V.str c])) := fun b o nb e => sr _ _ (hB2 _ _ nb e)
      refine ⟨_, b3 _ _ D1p q1, by rw [List.length_map]; exact len_ok (by omega), rs ++ [r], es ++ [(t0, kk, V.str c)], by rw [upd_same, List.map_append] <;> rfl, ?_, ?_, ?_, fun b o nb e => (upd_ne (ne_of_none e hD1)).trans (b3 _ _ nb (q5 _ _ nb e))⟩
      · refine Paired.snoc (Paired.mapP q2 fun r' e' h => ⟨h.1, h.2.1, (upd_ne h.1).trans (b3 _ _ (purse_nt q4 h.2.2.1) h.2.2.1), (upd_ne h.2.1).trans (b3 _ _ (purse_nt q4 h.2.2.2.1) h.2.2.2.1), h.2.2.2.2⟩) ⟨rD, t0D, (upd_ne rD).trans upd_same, (upd_ne t0D).trans (b3 _ _ t0p (q5 _ _ t0p ht0)), c, List.mem_of_getElem? ec, rfl⟩
      · rw [List.map_append, q3, List.take_add_one, ek]
        rfl
      · exact hP2.to fun o e => (upd_ne D1p.symm).trans (sr _ _ e)
    · rintro Hx ⟨rs, es, q1, q2, q3, q4, q5⟩
      have lt' : (ts'.map V.ref).length = L'.length := by
        rw [List.length_map]
        exact Paired.length tp'
      rw [lt', List.take_length] at q3
      refine ⟨D1, rs, es, rfl, SqL.of q1, Paired.mapP q2 fun r e h => ⟨SqT.of h.2.2.1, h.2.2.2.1⟩, fun d nd0 => ?_⟩
      obtain ⟨m, em⟩ : ∃ m, m = es.map (·.2) := ⟨_, rfl⟩
      have mk : m.map (·.1) = L' := by
        rw [em, List.map_map]
        exact q3
      have ndm : (m.map (·.1)).Nodup := by
        rw [mk]
        exact permL.nodup_iff.mpr (growN_nodup S1.ok.2.2.1.nodup 3)
      have mm : mergeT [] (es.map (·.2)) = m := by
        rw [← em, mergeT_unlike _ [] (by simpa using ndm)]
        rfl
      rw [mm]
      have hv : ∀ e ∈ m, ∃ z ∈ ms, e.2 = V.str z := fun e he => by
        rw [em] at he
        obtain ⟨e', he', rfl⟩ := List.mem_map.mp he
        obtain ⟨l, el⟩ := List.mem_iff_getElem?.mp he'
        obtain ⟨r, _, h⟩ := paired_at' (paired_flip q2) el
        exact h.2.2.2.2
      have sd := same_new (o := .dT m) nd0
      have dp : d ≠ p := fun e => by
        obtain ⟨o, q⟩ := q4.some
        rw [e, q] at nd0
        cases nd0
      have hP2 : PurseAt (upd Hx d (.dT m)) p (F + 50) := (q4.to fun o e => sd _ _ e).less (by omega)
      have hB2 : But p Hc (upd Hx d (.dT m)) := fun b o nb e => sd _ _ (q5 _ _ nb (hB1 _ _ nb e))
      have hd : (upd Hx d (.dT m)) d = some (.dT m) := upd_same
      generalize upd Hx d (.dT m) = H2 at hP2 hB2 hd
      have S2 := Sc.but hPc hB2
      have hw : WayIn H2 d ms m := ⟨hd, by rw [mk]; exact permL, hv⟩
      refine ⟨_, rfl, _, rfl, ⟨A, d, ms, m, rfl, S2.a, S2.ok, hw⟩, fun H3 s3 => ⟨_, rfl, _, rfl, ms, m, ⟨A, d, rfl, s3 _ _ S2.a, S2.ok, hw.to s3⟩, fun H4 s4 => ⟨(by show 2 ≤ sizeLine; decide), fun N1 nN1 => ?_⟩⟩⟩
      have s24 : Same H2 H4 := fun b o e => s4 _ _ (s3 _ _ e)
      have sN1 := same_new (o := .lst [V.bl true, V.bl (majB ms m)]) nN1
      have hN1 : (upd H4 N1 (.lst [V.bl true, V.bl (majB ms m)])) N1 = some (.lst [V.bl true, V.bl (majB ms m)]) := upd_same
      have s25 : Same H2 (upd H4 N1 (.lst [V.bl true, V.bl (majB ms m)])) := fun b o e => sN1 _ _ (s24 _ _ e)
      generalize upd H4 N1 (.lst [V.bl true, V.bl (majB ms m)]) = H5 at hN1 s25
      refine ⟨_, rfl, _, rfl, ms, m, ⟨A, d, rfl, s25 _ _ S2.a, S2.ok, hw.to s25⟩, fun H6 s6 => ⟨(by show 2 ≤ sizeLine; decide), fun N2 nN2 => ?_⟩⟩
      have sN2 := same_new (o := .lst [V.bl true, V.bl (majB ms m)]) nN2
      have hN2 : (upd H6 N2 (.lst [V.bl true, V.bl (majB ms m)])) N2 = some (.lst [V.bl true, V.bl (majB ms m)]) := upd_same
      have hN1' := sN2 _ _ (s6 _ _ hN1)
      have s27 : Same H2 (upd H6 N2 (.lst [V.bl true, V.bl (majB ms m)])) := fun b o e => sN2 _ _ (s6 _ _ (s25 _ _ e))
      generalize upd H6 N2 (.lst [V.bl true, V.bl (majB ms m)]) = H7 at hN2 hN1' s27
      refine ⟨[], _, _, rfl, .inr (.inl ⟨N1, N2, _, _, rfl, rfl, by simp, by simp, hN1', hN2, .cons (Ex.leaf rfl) (.cons (Ex.leaf rfl) .nil), by simp⟩), fun H8 s8 => ⟨true, rfl, ?_⟩⟩
      refine iteF ?_
      have s28 : Same H2 H8 := fun b o e => s8 _ _ (s27 _ _ e)
      have S8 := S2.to s28
      have hw8 := hw.to s28
      have hP8 := hP2.to fun o e => s28 _ _ e
      have hB8 : But p Hc H8 := fun b o nb e => s28 _ _ (hB2 _ _ nb e)
      refine ⟨_, rfl, by decide, by decide, fun D2 hD2 => ?_⟩
      have D2p : D2 ≠ p := fun e => by
        obtain ⟨o, q⟩ := hP8.some
        rw [e, q] at hD2
        cases hD2
      refine lc_range (lo := 0) (n := 3) (fun j Hx => ∃ (Ts : List Addr) (rows : List (List Str)), Ts.length = j ∧ Hx D2 = some (.lst (Ts.map V.ref)) ∧ Paired (fun T zs => T ≠ D2 ∧ RowAt Hx T zs ∧ zs.length = t + 1 ∧ ∀ z ∈ zs, z ∈ ms) Ts rows ∧ PurseAt Hx p (F + 3 * (3 - j)) ∧ But p H8 Hx)
        ⟨[], [], rfl, upd_same, .nil, (hP8.to fun o e => same_new hD2 _ _ e).less (by omega), Same.but (same_new hD2)⟩ ?_ ?_
      · rintro j Hx hj ⟨Ts, rows, r1, r2, r3, r4, r5⟩
        have S9 := S8.but hP8 r5
        refine ⟨rfl, ?_⟩
        refine ⟨_, p, A, t, ms, F + 3 * (3 - (j + 1)), _, _, _, _, _, _, _, _, _, _, _, _, _, _, rfl, S9.a, S9.ok, ht, r4.less (by omega), fun T H9 zs nT hT hz hzm hP9 hB9 => ?_⟩
        have TD2 : T ≠ D2 := fun e => by
          rw [e, r2] at nT
          cases nT
        refine ⟨_, hB9 _ _ D2p r2, by rw [List.length_map]; exact len_ok (by omega), Ts ++ [T], rows ++ [zs], by rw [List.length_append, r1] <;> rfl, by rw [upd_same, List.map_append] <;> rfl, ?_, ?_, fun b o nb e => (upd_ne (ne_of_none e hD2)).trans (hB9 _ _ nb (r5 _ _ nb e))⟩
        · exact Paired.snoc (Paired.mapP r3 fun T' zs' h => ⟨h.1, (upd_ne h.1).trans (hB9 _ _ (purse_nt r4 h.2.1) h.2.1), h.2.2⟩) ⟨TD2, (upd_ne TD2).trans hT, hz, hzm⟩
        · exact hP9.to fun o e => (upd_ne D2p.symm).trans e
      · rintro Hx ⟨Ts, rows, r1, r2, r3, r4, r5⟩
        have lr := Paired.length r3
        match Ts, rows, r1, r3 with
        | [t1, t2, t3], [xs, ys, zs], _, .cons h1 (.cons h2 (.cons h3 .nil)) =>
          refine ⟨D2, _, rfl, .inl ⟨SqL.of r2, fun R nR => ?_⟩⟩
          have sR := same_new (o := .tup (List.map V.ref [t1, t2, t3])) nR
          have hR : (upd Hx R (.tup (List.map V.ref [t1, t2, t3]))) R = some (.tup [V.ref t1, V.ref t2, V.ref t3]) := upd_same
          have hPR : PurseAt (upd Hx R (.tup (List.map V.ref [t1, t2, t3]))) p F := (r4.to fun o e => sR _ _ e).less (by omega)
          have bR : But p H8 (upd Hx R (.tup (List.map V.ref [t1, t2, t3]))) := fun b o nb e => sR _ _ (r5 _ _ nb e)
          have h1' := sR _ _ h1.2.1
          have h2' := sR _ _ h2.2.1
          have h3' := sR _ _ h3.2.1
          generalize upd Hx R (.tup (List.map V.ref [t1, t2, t3])) = HR at hR hPR bR h1' h2' h3'
          have SR := S8.but hP8 bR
          have dR := bR _ _ dp hw8.1
          have hwR : WayIn HR d ms m := ⟨dR, hw8.2⟩
          have rok : RowsOk HR R ms xs ys zs := ⟨⟨t1, t2, t3, hR, h1', h2', h3'⟩, by rw [h2.2.2.1, h1.2.2.1], by rw [h3.2.2.1, h1.2.2.1], by rw [h1.2.2.1]; omega, by rw [h1.2.2.1]; omega, h1.2.2.2, h2.2.2.2, h3.2.2.2⟩
          have hv8 : ∀ e ∈ m, leafV e.2 = true := fun e he => by
            obtain ⟨z, _, e'⟩ := hv e he
            rw [e']
            rfl
          refine ⟨_, rfl, _, rfl, d, R, ms, xs, ys, zs, m, rfl, SR.ok, hwR, rok, fun T1 H10 nT1 hT1 s10 => ?_⟩
          refine ⟨_, rfl, _, _, rfl, rfl, _, rfl, (show -(2 ^ 62) ≤ (1 + (t : Int)) by omega), (show (1 + (t : Int)) < 2 ^ 62 by omega), fun D3 hD3 => ?_⟩
          have tn : (1 + (t : Int)).toNat = t + 1 := by omega
          rw [tn]
          have R10 := s10 _ _ hR
          have a10 := s10 _ _ h1'
          have b10 := s10 _ _ h2'
          have c10 := s10 _ _ h3'
          have d10 := s10 _ _ dR
          refine lc_range (lo := 0) (n := t + 1) (fun j Hy => Hy D3 = some (.lst (giftL m (xs.take j) (ys.take j) (zs.take j))) ∧ Same H10 Hy) ⟨upd_same, same_new hD3⟩ ?_ ?_
          · rintro j Hy hj ⟨g1, g2⟩
            rw [Int.zero_add (j : Int)]
            obtain ⟨x, ex⟩ : ∃ x, xs[j]? = some x := ⟨_, List.getElem?_eq_getElem (by rw [h1.2.2.1]; exact hj)⟩
            obtain ⟨y, ey⟩ : ∃ x, ys[j]? = some x := ⟨_, List.getElem?_eq_getElem (by rw [h2.2.2.1]; exact hj)⟩
            obtain ⟨z, ez⟩ : ∃ x, zs[j]? = some x := ⟨_, List.getElem?_eq_getElem (by rw [h3.2.2.1]; exact hj)⟩
            have at3 : ∀ {us : List Str} {u : Str}, us[j]? = some u → atI (us.map V.str) (j : Int) = some (.str u) := fun {us u} e => atI_nat (by rw [List.getElem?_map, e] <;> rfl)
            have kin : ([Sum.inr x, Sum.inr y, Sum.inr z] : List Key) ∈ growN ms 3 := grow_mem3 (h1.2.2.2 x (List.mem_of_getElem? ex)) (h2.2.2.2 y (List.mem_of_getElem? ey)) (h3.2.2.2 z (List.mem_of_getElem? ez))
            obtain ⟨v, gv⟩ : ∃ v, valV m [Sum.inr x, Sum.inr y, Sum.inr z] = some v := by
              obtain ⟨⟨k0, v⟩, hmem, e0⟩ := List.mem_map.mp (hw8.2.1.mem_iff.mpr kin)
              obtain ⟨l, el⟩ := List.mem_iff_getElem?.mp hmem
              have e0 : k0 = [Sum.inr x, Sum.inr y, Sum.inr z] := e0
              subst e0
              exact ⟨v, valV_at ndm el⟩
            refine ⟨rfl, ?_⟩
            refine ⟨_, rfl, ?_⟩
            refine ⟨_, rfl, R, _, _, _, rfl, rfl, SqT.of (g2 _ _ R10), atI_nat (j := 0) rfl, _, rfl, t1, _, _, _, rfl, rfl, SqT.of (g2 _ _ a10), at3 ex, ?_⟩
            refine ⟨_, rfl, R, _, _, _, rfl, rfl, SqT.of (g2 _ _ R10), atI_nat (j := 1) rfl, _, rfl, t2, _, _, _, rfl, rfl, SqT.of (g2 _ _ b10), at3 ey, ?_⟩
            refine ⟨_, rfl, R, _, _, _, rfl, rfl, SqT.of (g2 _ _ R10), atI_nat (j := 2) rfl, _, rfl, t3, _, _, _, rfl, rfl, SqT.of (g2 _ _ c10), at3 ez, ?_⟩
            refine ⟨(by show 3 ≤ sizeLine; decide), fun q nq => ?_⟩
            have sq := same_new (o := .tup [V.str x, V.str y, V.str z]) nq
            have dg := DGet.t (k := [Sum.inr x, Sum.inr y, Sum.inr z]) (sq _ _ (g2 _ _ d10)) (upd_same (H := Hy) (a := q) (o := .tup [V.str x, V.str y, V.str z]))
            rw [gv] at dg
            refine ⟨d, v, rfl, dg, _, sq _ _ g1, ?_, ?_, fun b o e => (upd_ne (ne_of_none e hD3)).trans (sq _ _ (g2 _ _ e))⟩
            · have lx := h1.2.2.1
              have ly := h2.2.2.1
              have lz := h3.2.2.1
              rw [giftL_len m _ _ _ j (by rw [List.length_take]; omega) (by rw [List.length_take]; omega) (by rw [List.length_take]; omega)]
              exact len_ok (by omega)
            · rw [upd_same, giftL_more m xs ys zs j x y z ex ey ez, gv]
              rfl
          · rintro Hy ⟨g1, g2⟩
            rw [List.take_of_length_le (by rw [h1.2.2.1]; omega), List.take_of_length_le (by rw [h2.2.2.1]; omega), List.take_of_length_le (by rw [h3.2.2.1]; omega)] at g1
            refine ⟨D3, _, rfl, .inl ⟨SqL.of g1, fun T2 nT2 => ?_⟩⟩
            have sT := same_new (o := .tup (giftL m xs ys zs)) nT2
            refine ⟨[], _, _, rfl, .inr (.inr (.inl ⟨T1, T2, _, _, rfl, rfl, by simp, by simp, sT _ _ (g2 _ _ hT1), upd_same, paired_leaf (gift_leaf hv8 xs ys zs), ?_⟩)), fun H12 s12 => ⟨true, rfl, ?_⟩⟩
            · rw [giftL_whole m xs ys zs (by rw [h2.2.2.1, h1.2.2.1]) (by rw [h3.2.2.1, h1.2.2.1]), h1.2.2.1]
              omega
            refine iteF ?_
            have sEnd : Same HR H12 := fun b o e => s12 _ _ (sT _ _ (g2 _ _ (s10 _ _ e)))
            exact ⟨⟨_, _, _, rfl⟩, SR.to sEnd, hPR.to fun o e => sEnd _ _ e, fun b o nb e => sEnd _ _ (bR _ _ nb (hB8 _ _ nb (hBc _ _ nb e)))⟩
  · rintro σ Hc ⟨⟨w13, w14, w17, rfl⟩, Sc, hPc, hBc⟩
    exact k _ _ _ _ (hPc.less (by omega)) hBc
end
end Yt

set_option Elab.async false
set_option linter.all false
set_option maxRecDepth 100000
set_option maxHeartbeats 2000000
namespace Yt
open PySem PySem.Spec PyProof.Rows L2
theorem map_perm {α β : Type} {f : α → β} {xs zs : List β} (hp : xs.Perm zs) : ∀ (ts : List α), zs = ts.map f → ∃ ts' : List α, xs = ts'.map f ∧ ts'.Perm ts := by
  induction hp with
  | nil =>
    intro ts e
    cases ts with
    | nil => exact ⟨[], rfl, List.Perm.refl _⟩
    | cons t ts => cases e
  | cons x _ ih =>
    intro ts e
    cases ts with
    | nil => cases e
    | cons t ts =>
      rw [List.map_cons, List.cons.injEq] at e
      obtain ⟨ts', e1, p1⟩ := ih _ e.2
      exact ⟨t :: ts', by rw [e.1, e1] <;> rfl, .cons _ p1⟩
  | swap x y l =>
    intro ts e
    match ts with
    | [] => cases e
    | [_] => cases e
    | t :: u :: ts =>
      rw [List.map_cons, List.map_cons, List.cons.injEq, List.cons.injEq] at e
      exact ⟨u :: t :: ts, by rw [e.1, e.2.1, e.2.2] <;> rfl, .swap _ _ _⟩
  | trans _ _ ih1 ih2 =>
    intro ts e
    obtain ⟨ts2, e2, p2⟩ := ih2 _ e
    obtain ⟨ts1, e1, p1⟩ := ih1 _ e2
    exact ⟨ts1, e1, p1.trans p2⟩
theorem cat_more {K : PySem.W.Frag} {σ : L2.St} {H1 : Hp} {Q : VK} {c p : Addr} {ks : List V} {f : Nat} {n d : Int} (h1 : σ[1]? = some (some (.ref p))) (hc : H1 c = some (.tup ks)) (ne : ks ≠ []) (few : ks.length ≤ 10) (hP : PurseAt H1 p (f + 1)) (hd : 1 ≤ d ∧ d ≤ 1000000)
    (k : ∀ (c' : Addr) (ks' : List V) (H' : Hp), H' c' = some (.tup ks') → (ks' = ks ∨ ks' = ks ++ [.int n]) → PurseAt H' p f → But p H1 H' → Q (.ref c') H') :
    tOp (rRep01 K) (tTup (tCons (tC (.int n)) tNil)) (tCB (fun xs H Q => (∃ i, xs = [V.int i] ∧ Q (V.int i) H) ∨ ∃ k, xs = [V.bl k] ∧ Q (V.int (if k = true then 1 else 0)) H)
      (tCons (tOp rEq (tCall spDraw [] E0 (tCons (tVar 1) (tCons (tC (.int d)) tNil))) (tC (.int 0))) tNil)) σ H1 fun y H2 => rCatA K (.ref c) y H2 Q := by
  have l10 : ∀ j : Nat, j ≤ 100 → j ≤ sizeLine := fun j h => by
    rw [sizeLine_eq]
    omega
  refine ⟨l10 1 (by decide), fun t nt => ?_⟩
  have st := same_new (o := .tup [V.int n]) nt
  refine ⟨_, h1, p, f, d, rfl, hP.to fun o e => st _ _ e, hd, fun r H2 r0 r1 hP2 hB2 => ⟨rfl, .inr ⟨_, rfl, ?_⟩⟩⟩
  have tp : t ≠ p := fun e => by
    obtain ⟨o, q⟩ := hP.some
    rw [e, q] at nt
    cases nt
  have ht : H2 t = some (.tup [V.int n]) := hB2 _ _ tp upd_same
  have hcp := purse_nt hP hc
  have hc2 : H2 c = some (.tup ks) := hB2 _ _ hcp (st _ _ hc)
  have b2 : But p H1 H2 := fun b o nb e => hB2 _ _ nb (st _ _ e)
  have lens : ∀ j : Nat, j ≤ 10 → ks.length + j ≤ sizeLine := fun j h => l10 _ (by omega)
  refine ⟨t, _, [V.int n], rfl, rfl, SqT.of ht, by simp, ?_⟩
  by_cases e : V.int r = V.int 0
  · rw [decide_eq_true e]
    refine .inl ⟨rfl, ?_⟩
    refine ⟨c, t, ks, _, rfl, rfl, SqT.of hc2, SqT.of ht, lens 1 (by decide), fun h => absurd h ne, fun _ h => by simp at h, fun _ _ q nq => ?_⟩
    have sq := same_new (o := .tup (ks ++ [V.int n])) nq
    exact k q _ _ upd_same (.inr rfl) (hP2.to fun o e => sq _ _ e) fun b o nb e => sq _ _ (b2 _ _ nb e)
  · rw [decide_eq_false e]
    refine .inr ⟨rfl, fun q nq => ?_⟩
    have sq := same_new (o := .tup []) nq
    refine ⟨c, q, ks, [], rfl, rfl, SqT.of (sq _ _ hc2), SqT.of upd_same, lens 0 (by decide), fun h => absurd h ne, fun _ _ => ?_, fun _ h => absurd rfl h⟩
    exact k c _ _ (sq _ _ hc2) (.inl rfl) (hP2.to fun o e => sq _ _ e) fun b o nb e => sq _ _ (b2 _ _ nb e)
theorem ite_tC {c : Bool} {x y : V} {σ : L2.St} {H : Hp} {q : VK} (h : q (if c = true then x else y) H) : if c = true then tC x σ H q else tC y σ H q := by
  cases c
  · exact h
  · exact h
def spLaw (K : PySem.W.Frag) : Sp := fun vs H Q _ => ∃ (a : Addr) (ns : List Int), vs = [.ref a] ∧ SqL K H a (ns.map V.int) ∧ ns.length ≤ 63 ∧ ∀ H', Q (.bl true) H'
section
variable {P : Program} {w : World} {K : PySem.W.Frag} {mg : Str → Option Value} {base : Heap} {f : Addr} {fd : FuncData}
theorem ok_law (F : FnP K "law" sLaw f fd) (C : Cals P w K mg base) (T : Nm mg) (T6 : Nm6 mg) : FnOk P w K mg base CX0 7 f fd ["_law_script"] (spLaw K) := by
  obtain ⟨fP, dP, GP, bP, kP, gP⟩ := C.purses.ex
  obtain ⟨fD, dD, GD, bD, kD, gD⟩ := C.draw.ex
  obtain ⟨fM, dM, GM, bM, kM, gM⟩ := C.marks.ex
  obtain ⟨fT, dT, GT, bT, kT, gT⟩ := C.threes.ex
  obtain ⟨fF, dF, GF, bF, kF, gF⟩ := C.free.ex
  obtain ⟨fS, dS, GS, bS, kS, gS⟩ := C.shuf.ex
  refine F.ok scLaw (fun vs H Q E h => ?_) (fun cdv A outer s H vs Q E hr h => ?_)
  · obtain ⟨a, ns, rfl, _⟩ := h
    rfl
  · obtain ⟨a, ns, rfl, hS, hl, k⟩ := h
    refine ⟨_, PSs.nox (pss_cons (ps_for PassesOwn.never rfl (pi_list (pe_call GP (hr.mono (by decide)) rfl gP kP bP .nil pass0 (pa_cons (pv 0) (pa_cons pe_int pa_nil)))) (pg_name (i := 1) scLaw.nd rfl (Or.inr rfl))
      (pss_one (ps_for PassesOwn.never rfl (pi_tup (pe_op op_catA (pe_op op_catA (pe_tup (pa_cons pe_int (pa_cons pe_int (pa_cons pe_int pa_nil))))
            (pe_op op_rep01 (pe_tup (pa_cons pe_int pa_nil)) (pe_callTy call_int1 (by rfl) T.int (by decide +kernel) (pa_cons (pe_cmpR op_eq (pe_call GD (hr.mono (by decide)) rfl gD kD bD .nil pass0 (pa_cons (pv 1) (pa_cons pe_int pa_nil))) pe_int (nomark _)) pa_nil))))
            (pe_op op_rep01 (pe_tup (pa_cons pe_int pa_nil)) (pe_callTy call_int1 (by rfl) T.int (by decide +kernel) (pa_cons (pe_cmpR op_eq (pe_call GD (hr.mono (by decide)) rfl gD kD bD .nil pass0 (pa_cons (pv 1) (pa_cons pe_int pa_nil))) pe_int (nomark _)) pa_nil))))) (pg_name (i := 2) scLaw.nd rfl (Or.inl rfl))
        (pss_cons (ps_set (i := 3) scLaw.nd rfl (Or.inr rfl) (pe_call GM (hr.mono (by decide)) rfl gM kM bM .nil pass0 (pa_cons (pv 1) (pa_cons (pv 2) pa_nil))))
        (pss_cons (ps_par (i := 4) (j := 5) (by rfl) scLaw.nd rfl rfl (by decide) rfl rfl (pa_cons (pe_call GT (hr.mono (by decide)) rfl gT kT bT .nil pass0 (pa_cons (pv 3) pa_nil)) (pa_cons (pe_call GF (hr.mono (by decide)) rfl gF kF bF .nil pass0 (pa_cons (pv 3) pa_nil)) pa_nil)) (by rfl))
        (pss_cons (st_pick C T T6 hr)
        (pss_cons (ps_set (i := 9) scLaw.nd rfl (Or.inl rfl) (pe_call GS (hr.mono (by decide)) rfl gS kS bS .nil pass0 (pa_cons (pv 1) (pa_cons (pv 3) pa_nil))))
        (pss_cons (ps_set (i := 10) scLaw.nd rfl (Or.inl rfl) (pe_callTy call_list_of (by rfl) T6.list (by decide +kernel) (pa_cons (pv 9) pa_nil)))
        (pss_cons (st_mid C T hr)
        (pss_cons (ps_set (i := 11) scLaw.nd rfl (Or.inl rfl) (pe_ifExp (pt_cmpR op_eq (pv 2) pe_int (nomark _)) pe_int pe_int))
        (pss_cons (st_many C T hr)
        (pss_cons (st_numbers C T hr)
        (pss_one (st_turns C T T6 hr))))))))))))))
      (pss_one (ps_ret pe_bl))), ?_⟩
    refine ⟨_, rfl, a, ns, 1, rfl, hS, hl, ⟨by decide, by decide⟩, fun L ps H1 hne hlen hL1n hL1 hps hnd s1 => ?_⟩
    obtain ⟨p, rfl⟩ : ∃ p, ps = [p] := by
      match ps, hne, hlen with
      | [p], _, _ => exact ⟨p, rfl⟩
      | p :: q :: r, _, h => simp only [List.length_cons] at h; omega
    obtain ⟨hP1, _, hpL⟩ := hps p (List.mem_singleton.mpr rfl)
    refine ⟨L, rfl, ⟨_, SqL.of hL1⟩, for_list (K := K) (a := L) (xs := [V.ref p]) (fun i σ H2 => (∃ v1 v2 v3 v4 v5 v6 v7 v8 v9 v10 v11 v12 v13 v14 v15 v16 v17 : Option V, σ = [some (.ref a), v1, v2, v3, v4, v5, v6, v7, v8, v9, v10, v11, v12, v13, v14, v15, v16, v17]) ∧ (i = 0 → H2 = H1) ∧ H2 L = some (.lst [.ref p]))
      ⟨⟨_, _, _, _, _, _, _, _, _, _, _, _, _, _, _, _, _, rfl⟩, fun _ => rfl, hL1⟩ (fun i σ H2 _ ⟨_, _, h⟩ => SqL.of h) ?_ ?_⟩
    · rintro i u0 σ Hb hi ⟨⟨v1, v2, v3, v4, v5, v6, v7, v8, v9, v10, v11, v12, v13, v14, v15, v16, v17, rfl⟩, h0, hLk⟩
      obtain rfl : i = 0 := by
        have := (List.getElem?_eq_some_iff.mp hi).1
        simp only [List.length_singleton] at this
        omega
      obtain rfl := h0 rfl
      obtain rfl : V.ref p = u0 := Option.some.inj hi
      have l3 : 3 ≤ sizeLine := by decide
      refine ⟨l3, fun t1 nt1 => ?_⟩
      have st1 := same_new (o := .tup [V.int 1, V.int 2, V.int 3]) nt1
      refine cat_more (p := p) (f := 90001) rfl upd_same (by simp) (by simp) ((hP1.less (show 90002 ≤ FUEL by decide)).to fun o e => st1 _ _ e) (by decide) fun c1 ks1 H2 hc1 e1 hP2 hB2 => ?_
      have f1 : ks1 ≠ [] ∧ ks1.length ≤ 4 ∧ ∀ x ∈ ks1, ∃ m : Nat, x = V.int m ∧ 1 ≤ m ∧ m ≤ 5 := by
        rcases e1 with rfl | rfl
        · refine ⟨by simp, by simp, fun x hx => ?_⟩
          simp only [List.mem_cons, List.not_mem_nil, or_false] at hx
          rcases hx with rfl | rfl | rfl
          · exact ⟨1, rfl, by decide⟩
          · exact ⟨2, rfl, by decide⟩
          · exact ⟨3, rfl, by decide⟩
        · refine ⟨by simp, by simp, fun x hx => ?_⟩
          simp only [List.cons_append, List.nil_append, List.mem_cons, List.not_mem_nil, or_false] at hx
          rcases hx with rfl | rfl | rfl | rfl
          · exact ⟨1, rfl, by decide⟩
          · exact ⟨2, rfl, by decide⟩
          · exact ⟨3, rfl, by decide⟩
          · exact ⟨4, rfl, by decide⟩
      refine cat_more (p := p) (f := 90000) rfl hc1 f1.1 (by have := f1.2.1; omega) hP2 (by decide) fun c2 ks H3 hc2 e2 hP3 hB3 => ?_
      have f2 : ks.length ≤ 5 ∧ ∀ x ∈ ks, ∃ m : Nat, x = V.int m ∧ 1 ≤ m ∧ m ≤ 5 := by
        rcases e2 with rfl | rfl
        · exact ⟨by have := f1.2.1; omega, f1.2.2⟩
        · refine ⟨by rw [List.length_append]; have := f1.2.1; simpa using this, fun x hx => ?_⟩
          rcases List.mem_append.mp hx with h | h
          · exact f1.2.2 x h
          · rw [List.mem_singleton.mp h]
            exact ⟨5, rfl, by decide⟩
      have c2p := purse_nt hP3 hc2
      have hB13 : But p Hb H3 := fun b o nb e => hB3 _ _ nb (hB2 _ _ nb (st1 _ _ e))
      refine ⟨c2, rfl, ⟨_, SqT.of hc2⟩, for_tup (K := K) (a := c2) (xs := ks) (fun j σ Hc => (∃ v2 v3 v4 v5 v6 v7 v8 v9 v10 v11 v12 v13 v14 v15 v16 v17 : Option V, σ = [some (.ref a), some (.ref p), v2, v3, v4, v5, v6, v7, v8, v9, v10, v11, v12, v13, v14, v15, v16, v17]) ∧ PurseAt Hc p (3000 * (6 - j)) ∧ But p H3 Hc)
        ⟨⟨_, _, _, _, _, _, _, _, _, _, _, _, _, _, _, _, rfl⟩, hP3.less (by decide), But.refl p H3⟩ (fun j σ Hc _ ⟨_, _, z⟩ => SqT.of (z _ _ c2p hc2)) ?_ ?_⟩
      · rintro j u σ Hc hj ⟨⟨v2, v3, v4, v5, v6, v7, v8, v9, v10, v11, v12, v13, v14, v15, v16, v17, rfl⟩, hPc, hBc⟩
        obtain ⟨m, rfl, m1, m5⟩ := f2.2 u (List.mem_of_getElem? hj)
        have j5 : j < 5 := by
          have := (List.getElem?_eq_some_iff.mp hj).1
          have := f2.1
          omega
        obtain ⟨G, eG⟩ : ∃ G, G = 3000 * (6 - (j + 1)) := ⟨_, rfl⟩
        have hPc : PurseAt Hc p (G + 3000) := hPc.less (by omega)
        rw [← eG]
        refine ⟨_, rfl, _, rfl, p, G + 2900, m, rfl, by omega, by omega, hPc.less (by omega), fun A ms H4 lm asc words nA hA hP4 hB4 => ?_⟩
        obtain rfl : m = ms.length := by omega
        have ok : MarksOk ms := ⟨m1, m5, asc, words⟩
        refine ⟨_, rfl, A, ms, rfl, SqL.of hA, m5, fun Th ts H5 nTh hTh tp s5 => ⟨_, rfl, A, ms, rfl, SqL.of (s5 _ _ hA), m5, fun Fr fs H6 nFr hFr fp s6 => ⟨_, _, rfl, ?_⟩⟩⟩
        have S : Scene H6 A Th Fr ms ts fs := ⟨s6 _ _ (s5 _ _ hA), ok, s6 _ _ hTh, Paired.mapP tp fun _ _ h => s6 _ _ h, hFr, fp⟩
        have hP6 := (hP4.to fun o e => s6 _ _ (s5 _ _ e))
        have hB6 : But p H3 H6 := fun b o nb e => s6 _ _ (s5 _ _ (hB4 _ _ nb (hBc _ _ nb e)))
        refine ⟨⟨_, _, A, Th, Fr, ms, ts, fs, _, _, _, _, _, _, _, _, _, _, _, _, rfl, S⟩, fun σ7 H7 ⟨s7, w6, w8, e7⟩ => ?_⟩
        subst e7
        have S7 := S.to s7
        have hP7 := hP6.to fun o e => s7 _ _ e
        have hB7 : But p H3 H7 := fun b o nb e => s7 _ _ (hB6 _ _ nb e)
        refine ⟨_, rfl, _, rfl, p, A, G + 2800, ms.map V.str, rfl, purse_ne hP7 S7.a, hP7.less (by rw [List.length_map]; omega), SqL.of S7.a, (by rw [List.length_map]; omega), fun O ys H8 perm nO hO hP8 hB8 => ?_⟩
        obtain ⟨os, rfl, po⟩ := map_perm perm ms rfl
        have S8 := S7.but hP7 hB8
        refine ⟨_, rfl, O, _, rfl, .inl (SqL.of hO), fun Ln nLn => ?_⟩
        have sL := same_new (o := .lst (os.map V.str)) nLn
        have S9 := S8.to sL
        have hO9 := sL _ _ hO
        have hL9 : (upd H8 Ln (.lst (os.map V.str))) Ln = some (.lst (os.map V.str)) := upd_same
        have hP9 : PurseAt (upd H8 Ln (.lst (os.map V.str))) p (G + 2800) := hP8.to fun o e => sL _ _ e
        have hB9 : But p H3 (upd H8 Ln (.lst (os.map V.str))) := fun b o nb e => sL _ _ (hB8 _ _ nb (hB7 _ _ nb e))
        generalize upd H8 Ln (.lst (os.map V.str)) = H9 at S9 hO9 hL9 hP9 hB9
        refine ⟨⟨A, O, Ln, ms, os, rfl, rfl, rfl, S9.a, ok, hO9, hL9, po⟩, fun σ10 H10 ⟨s10, e10⟩ => ?_⟩
        subst e10
        refine ⟨_, rfl, rfl, ?_⟩
        refine ⟨_, rfl, ?_⟩
        refine ite_tC ?_
        have eM : (if decide (V.int ((ms.length : Nat) : Int) = V.int 3) = true then V.int 729 else V.int 1) = V.int (if ms.length = 3 then 729 else 1) := by
          by_cases h : ms.length = 3
          · rw [h] <;> rfl
          · have : V.int ((ms.length : Nat) : Int) ≠ V.int 3 := fun q => h (by have := V.int.inj q; omega)
            rw [decide_eq_false this, if_neg h]
            rfl
        rw [eM]
        have S10 := S9.to s10
        have hP10 := hP9.to fun o e => s10 _ _ e
        refine ⟨⟨A, ms, rfl, rfl, rfl, S10.a, ok⟩, fun σ11 H11 ⟨s11, e11⟩ => ?_⟩
        subst e11
        have S11 := S10.to s11
        have hP11 := hP10.to fun o e => s11 _ _ e
        have hB11 : But p H3 H11 := fun b o nb e => s11 _ _ (s10 _ _ (hB9 _ _ nb e))
        refine ⟨_, p, A, Th, Fr, ms, ts, fs, G + 900, _, _, _, _, _, _, _, _, _, _, _, rfl, S11, hP11.less (by omega), fun x6 x7 x8 x12 H12 hP12 hB12 => ?_⟩
        have S12 := S11.but hP11 hB12
        refine ⟨_, p, A, Th, Fr, ms, ts, fs, G, _, _, _, _, _, _, _, _, _, _, _, _, rfl, S12, hP12, fun x13 x14 x17 H13 hP13 hB13' => ?_⟩
        exact ⟨⟨_, _, _, _, _, _, _, _, _, _, _, _, _, _, _, _, rfl⟩, hP13, fun b o nb e => hB13' _ _ nb (hB12 _ _ nb (hB11 _ _ nb e))⟩
      · rintro σ Hc ⟨⟨v2, v3, v4, v5, v6, v7, v8, v9, v10, v11, v12, v13, v14, v15, v16, v17, rfl⟩, hPc, hBc⟩
        exact ⟨⟨_, _, _, _, _, _, _, _, _, _, _, _, _, _, _, _, _, rfl⟩, (fun h => by omega), hBc _ _ hpL.symm (hB13 _ _ hpL.symm hLk)⟩
    · rintro σ Hc ⟨⟨v1, v2, v3, v4, v5, v6, v7, v8, v9, v10, v11, v12, v13, v14, v15, v16, v17, rfl⟩, _, _⟩
      exact k _
end
end Yt

set_option Elab.async false
set_option linter.all false
set_option maxRecDepth 100000
set_option maxHeartbeats 2000000
namespace Yt
open PySem PySem.Spec PyProof.Rows L2
/-! ### the head: what is asked of the written part -/
abbrev defs0 : List (Str × Nat) := [("is_count", 8), ("is_word", 9), ("are_marks", 10), ("check_marks", 11), ("is_order_of", 12), ("is_row", 14), ("threes_of", 17), ("unlike_threes_of", 18), ("mark_twice_in", 19), ("is_way_over", 20), ("is_majority_over", 21), ("is_way", 22), ("picker", 23), ("is_majority", 24), ("middle_way", 25), ("_middle_of", 26), ("many_majorities", 27), ("majority_at", 28), ("_check_counted_marks", 29), ("_gift", 30)]
abbrev defs1 : List (Str × Nat) := [("gift_of", 31), ("_marks_of_way", 32), ("_is_three_of_words", 33), ("_are_three_rows", 34), ("_law_purse", 36), ("_law_mixed", 37), ("_law_draw", 38), ("_law_purses", 39), ("_law_one_of", 40), ("_law_shuffled", 41), ("_law_exact", 42), ("_law_word", 43), ("_law_words", 44), ("_law_marks", 45), ("_law_threes", 46), ("_law_majority", 47), ("_law_middle", 48), ("_law_free", 49), ("_law_is_major", 50), ("_law_way_right", 51)]
abbrev defs2 : List (Str × Nat) := [("law", 52)]
abbrev defNames : List (Str × Nat) := defs0 ++ (defs1 ++ (defs2))
def dF (p : Str × Nat) : He.DefD := ⟨(p.1, none), p.1, p.1, defArgs (top p.2), defBody (top p.2), defScope (top p.2), [], []⟩
def fnY : List He.DefD := defNames.map dF
abbrev freeNames : List Str := ["int", "sum", "max", "min", "range", "len", "isinstance", "list", "tuple", "dict", "bool", "zip", "all", "str", "sorted", "divmod", "reversed"]
def faY : List He.Fa := defNames.map (fun p => .glo p.1) ++ (freeNames.map (fun x => .free x) ++ [.int "MOST_COUNTED_MARKS" 3])
abbrev hkY : PySem.W.Hook := He.hookD 4 faY fnY
def obT (s : PySem.W.SharedT) : He.AlD := He.obsDG 4 faY fnY (HandSHeadRun.getT s)
theorem obT_eq (s : PySem.W.SharedT) : obT s = hkY.obs s.abs := He.obsDG_eq (HandSHeadRun.getT_eq s)
abbrev R : PySem.W.OpenRow := PySem.W.OpenLaw.row PySem.Challenge.rw_pairtells_k07_whole_pickers_majorities_a
abbrev loose0 : List Str := ["PairError", "InvalidMarks", "InvalidRows", "InvalidWay", "InvalidOrder", "InvalidNumber", "MOST_COUNTED_MARKS"]
abbrev looseY : List Str := loose0 ++ (defNames.take 40).map Prod.fst
end Yt

set_option Elab.async false
set_option linter.all false
set_option maxRecDepth 100000
set_option maxHeartbeats 0
namespace Yt
open PySem PySem.Spec PyProof.Rows L2
theorem run (w : World) : HandSHeadRun.RunEq R (PySem.W.view R.prog [52]) hkY obT 10000 looseY w := by
  intro os
  kernel_rfl
end Yt

set_option Elab.async false
set_option linter.all false
set_option maxRecDepth 100000
set_option maxHeartbeats 0
namespace Yt
open PySem PySem.Spec PyProof.Rows L2
/-! ### what the head's words say -/
theorem fact_mem {fa : List He.Fa} {fn : List He.DefD} {K : PySem.W.Frag} (c : He.SaysD fa fn K) {f : He.Fa} (h : f ∈ fa) : He.Fa.ok K f = true := by
  obtain ⟨i, e⟩ := List.mem_iff_getElem?.mp h
  exact c.fact i e
theorem def_mem {fa : List He.Fa} {fn : List He.DefD} {K : PySem.W.Frag} (c : He.SaysD fa fn K) {d : He.DefD} (h : d ∈ fn) : ∃ fd, FunD K d.name d.qual d.params d.body d.scope (He.DefD.dvs K d) (He.DefD.kws K d) (He.fAd K d.at_) fd := by
  obtain ⟨i, e⟩ := List.mem_iff_getElem?.mp h
  exact c.def_ i e
section
variable {K : PySem.W.Frag} {h : Heap} {mg : Str → Option Value}
theorem def_law (c : He.SaysD faY fnY K) {p : Str × Nat} (m : p ∈ defNames) : ∃ fd, FnP K p.1 (top p.2) (He.ga K p.1) fd :=
  def_mem c (d := dF p) (List.mem_map_of_mem m)
theorem glo_def (X : K.In h) (G : h.Ns mainGlobals mg) (c : He.SaysD faY fnY K) {p : Str × Nat} (m : p ∈ defNames) : mg p.1 = some (.ref (He.ga K p.1)) :=
  He.glo_ok X G (fact_mem c (f := .glo p.1) (List.mem_append_left _ (List.mem_map_of_mem (f := fun p : Str × Nat => He.Fa.glo p.1) m)))
theorem free_y (X : K.In h) (G : h.Ns mainGlobals mg) (c : He.SaysD faY fnY K) {x : Str} (m : x ∈ freeNames) : mg x = none :=
  He.free_ok X G (fact_mem c (f := .free x) (List.mem_append_right _ (List.mem_append_left _ (List.mem_map_of_mem (f := fun x => He.Fa.free x) m))))
theorem most_y (X : K.In h) (G : h.Ns mainGlobals mg) (c : He.SaysD faY fnY K) : ∃ t, mg "MOST_COUNTED_MARKS" = some (.int 3 t) :=
  He.int_ok X G (fact_mem c (f := .int "MOST_COUNTED_MARKS" 3) (List.mem_append_right _ (List.mem_append_right _ (List.mem_singleton.mpr rfl))))
end
theorem facts {P : Program} {w : World} {K : PySem.W.Frag} {h : Heap} {mg : Str → Option Value} {f : Addr} (X : K.In h) (G : h.Ns mainGlobals mg) (hfa : mg ("law" : Str) = some (.ref f)) (c : He.SaysD faY fnY K) :
    ∃ fd : FuncData, (∀ (s : Shared) (v : Value), BindsTo s fd ⟨[v], []⟩ [("_law_script", v)]) ∧ ∀ base : Heap, K.In base → base.Ns mainGlobals mg → FnOk P w K mg base CX0 7 f fd ["_law_script"] (spLaw K) := by
  have fr : ∀ {x : Str}, x ∈ freeNames → mg x = none := fun m => free_y X G c m
  have gd : ∀ {p : Str × Nat}, p ∈ defNames → mg p.1 = some (.ref (He.ga K p.1)) := fun m => glo_def X G c m
  have N1 : Nm mg := ⟨fr (by decide), fr (by decide), fr (by decide), fr (by decide), fr (by decide), fr (by decide)⟩
  have N6 : Nm6 mg := ⟨fr (by decide), fr (by decide), fr (by decide), fr (by decide), fr (by decide), fr (by decide), fr (by decide)⟩
  have N7 : Nm7 mg := ⟨fr (by decide)⟩
  have hso : mg "sorted" = none := fr (by decide)
  have hdm : mg "divmod" = none := fr (by decide)
  have hrv : mg "reversed" = none := fr (by decide)
  obtain ⟨tM, gMost⟩ := most_y X G c
  obtain ⟨d_is_count, F_is_count⟩ := def_law c (p := ("is_count", 8)) (by decide)
  obtain ⟨d_is_word, F_is_word⟩ := def_law c (p := ("is_word", 9)) (by decide)
  obtain ⟨d_are_marks, F_are_marks⟩ := def_law c (p := ("are_marks", 10)) (by decide)
  obtain ⟨d_check_marks, F_check_marks⟩ := def_law c (p := ("check_marks", 11)) (by decide)
  obtain ⟨d_is_order_of, F_is_order_of⟩ := def_law c (p := ("is_order_of", 12)) (by decide)
  obtain ⟨d_is_row, F_is_row⟩ := def_law c (p := ("is_row", 14)) (by decide)
  obtain ⟨d_threes_of, F_threes_of⟩ := def_law c (p := ("threes_of", 17)) (by decide)
  obtain ⟨d_unlike_threes_of, F_unlike_threes_of⟩ := def_law c (p := ("unlike_threes_of", 18)) (by decide)
  obtain ⟨d_mark_twice_in, F_mark_twice_in⟩ := def_law c (p := ("mark_twice_in", 19)) (by decide)
  obtain ⟨d_is_way_over, F_is_way_over⟩ := def_law c (p := ("is_way_over", 20)) (by decide)
  obtain ⟨d_is_majority_over, F_is_majority_over⟩ := def_law c (p := ("is_majority_over", 21)) (by decide)
  obtain ⟨d_is_way, F_is_way⟩ := def_law c (p := ("is_way", 22)) (by decide)
  obtain ⟨d_picker, F_picker⟩ := def_law c (p := ("picker", 23)) (by decide)
  obtain ⟨d_is_majority, F_is_majority⟩ := def_law c (p := ("is_majority", 24)) (by decide)
  obtain ⟨d_middle_way, F_middle_way⟩ := def_law c (p := ("middle_way", 25)) (by decide)
  obtain ⟨d__middle_of, F__middle_of⟩ := def_law c (p := ("_middle_of", 26)) (by decide)
  obtain ⟨d_many_majorities, F_many_majorities⟩ := def_law c (p := ("many_majorities", 27)) (by decide)
  obtain ⟨d_majority_at, F_majority_at⟩ := def_law c (p := ("majority_at", 28)) (by decide)
  obtain ⟨d__check_counted_marks, F__check_counted_marks⟩ := def_law c (p := ("_check_counted_marks", 29)) (by decide)
  obtain ⟨d__gift, F__gift⟩ := def_law c (p := ("_gift", 30)) (by decide)
  obtain ⟨d_gift_of, F_gift_of⟩ := def_law c (p := ("gift_of", 31)) (by decide)
  obtain ⟨d__marks_of_way, F__marks_of_way⟩ := def_law c (p := ("_marks_of_way", 32)) (by decide)
  obtain ⟨d__is_three_of_words, F__is_three_of_words⟩ := def_law c (p := ("_is_three_of_words", 33)) (by decide)
  obtain ⟨d__are_three_rows, F__are_three_rows⟩ := def_law c (p := ("_are_three_rows", 34)) (by decide)
  obtain ⟨d__law_purse, F__law_purse⟩ := def_law c (p := ("_law_purse", 36)) (by decide)
  obtain ⟨d__law_mixed, F__law_mixed⟩ := def_law c (p := ("_law_mixed", 37)) (by decide)
  obtain ⟨d__law_draw, F__law_draw⟩ := def_law c (p := ("_law_draw", 38)) (by decide)
  obtain ⟨d__law_purses, F__law_purses⟩ := def_law c (p := ("_law_purses", 39)) (by decide)
  obtain ⟨d__law_one_of, F__law_one_of⟩ := def_law c (p := ("_law_one_of", 40)) (by decide)
  obtain ⟨d__law_shuffled, F__law_shuffled⟩ := def_law c (p := ("_law_shuffled", 41)) (by decide)
  obtain ⟨d__law_exact, F__law_exact⟩ := def_law c (p := ("_law_exact", 42)) (by decide)
  obtain ⟨d__law_word, F__law_word⟩ := def_law c (p := ("_law_word", 43)) (by decide)
  obtain ⟨d__law_words, F__law_words⟩ := def_law c (p := ("_law_words", 44)) (by decide)
  obtain ⟨d__law_marks, F__law_marks⟩ := def_law c (p := ("_law_marks", 45)) (by decide)
  obtain ⟨d__law_threes, F__law_threes⟩ := def_law c (p := ("_law_threes", 46)) (by decide)
  obtain ⟨d__law_majority, F__law_majority⟩ := def_law c (p := ("_law_majority", 47)) (by decide)
  obtain ⟨d__law_middle, F__law_middle⟩ := def_law c (p := ("_law_middle", 48)) (by decide)
  obtain ⟨d__law_free, F__law_free⟩ := def_law c (p := ("_law_free", 49)) (by decide)
  obtain ⟨d__law_is_major, F__law_is_major⟩ := def_law c (p := ("_law_is_major", 50)) (by decide)
  obtain ⟨d__law_way_right, F__law_way_right⟩ := def_law c (p := ("_law_way_right", 51)) (by decide)
  obtain ⟨d_law, F_law⟩ := def_law c (p := ("law", 52)) (by decide)
  have e := hfa.symm.trans (gd (p := ("law", 52)) (by decide))
  cases e
  have b := FunD.bindsA (ps := ["_law_script"]) F_law fun _ _ _ _ _ _ us hl => match us, hl with | [_], _ => rfl
  refine ⟨d_law, fun s v => b s [v] rfl, fun base _ _ => ?_⟩
  have b_is_count : Binds K d_is_count ["value"] [] := F_is_count.bindsN fun _ _ _ _ _ _ us hl => match us, hl with | [_], _ => rfl
  have b_is_word : Binds K d_is_word ["value"] [] := F_is_word.bindsN fun _ _ _ _ _ _ us hl => match us, hl with | [_], _ => rfl
  have b_are_marks : Binds K d_are_marks ["value"] [] := F_are_marks.bindsN fun _ _ _ _ _ _ us hl => match us, hl with | [_], _ => rfl
  have b_check_marks : Binds K d_check_marks ["marks"] [] := F_check_marks.bindsN fun _ _ _ _ _ _ us hl => match us, hl with | [_], _ => rfl
  have b_is_order_of : Binds K d_is_order_of ["words", "value"] [] := F_is_order_of.bindsN fun _ _ _ _ _ _ us hl => match us, hl with | [_, _], _ => rfl
  have b_is_row : Binds K d_is_row ["marks", "width", "value"] [] := F_is_row.bindsN fun _ _ _ _ _ _ us hl => match us, hl with | [_, _, _], _ => rfl
  have b_threes_of : Binds K d_threes_of ["marks"] [] := F_threes_of.bindsN fun _ _ _ _ _ _ us hl => match us, hl with | [_], _ => rfl
  have b_unlike_threes_of : Binds K d_unlike_threes_of ["marks"] [] := F_unlike_threes_of.bindsN fun _ _ _ _ _ _ us hl => match us, hl with | [_], _ => rfl
  have b_mark_twice_in : Binds K d_mark_twice_in ["three"] [] := F_mark_twice_in.bindsN fun _ _ _ _ _ _ us hl => match us, hl with | [_], _ => rfl
  have b_is_way_over : Binds K d_is_way_over ["marks", "value"] [] := F_is_way_over.bindsN fun _ _ _ _ _ _ us hl => match us, hl with | [_, _], _ => rfl
  have b_is_majority_over : Binds K d_is_majority_over ["marks", "value"] [] := F_is_majority_over.bindsN fun _ _ _ _ _ _ us hl => match us, hl with | [_, _], _ => rfl
  have b_is_way : Binds K d_is_way ["marks", "value"] [] := F_is_way.bindsN fun _ _ _ _ _ _ us hl => match us, hl with | [_, _], _ => rfl
  have b_picker : Binds K d_picker ["marks", "number"] [] := F_picker.bindsN fun _ _ _ _ _ _ us hl => match us, hl with | [_, _], _ => rfl
  have b_is_majority : Binds K d_is_majority ["marks", "value"] [] := F_is_majority.bindsN fun _ _ _ _ _ _ us hl => match us, hl with | [_, _], _ => rfl
  have b_middle_way : Binds K d_middle_way ["marks", "order"] [] := F_middle_way.bindsN fun _ _ _ _ _ _ us hl => match us, hl with | [_, _], _ => rfl
  have b__middle_of : Binds K d__middle_of ["three", "order"] [] := F__middle_of.bindsN fun _ _ _ _ _ _ us hl => match us, hl with | [_, _], _ => rfl
  have b_many_majorities : Binds K d_many_majorities ["marks"] [] := F_many_majorities.bindsN fun _ _ _ _ _ _ us hl => match us, hl with | [_], _ => rfl
  have b_majority_at : Binds K d_majority_at ["marks", "number"] [] := F_majority_at.bindsN fun _ _ _ _ _ _ us hl => match us, hl with | [_, _], _ => rfl
  have b__check_counted_marks : Binds K d__check_counted_marks ["marks"] [] := F__check_counted_marks.bindsN fun _ _ _ _ _ _ us hl => match us, hl with | [_], _ => rfl
  have b__gift : Binds K d__gift ["way", "first", "second", "third"] [] := F__gift.bindsN fun _ _ _ _ _ _ us hl => match us, hl with | [_, _, _, _], _ => rfl
  have b_gift_of : Binds K d_gift_of ["way", "rows"] [] := F_gift_of.bindsN fun _ _ _ _ _ _ us hl => match us, hl with | [_, _], _ => rfl
  have b__marks_of_way : Binds K d__marks_of_way ["way"] [] := F__marks_of_way.bindsN fun _ _ _ _ _ _ us hl => match us, hl with | [_], _ => rfl
  have b__is_three_of_words : Binds K d__is_three_of_words ["value"] [] := F__is_three_of_words.bindsN fun _ _ _ _ _ _ us hl => match us, hl with | [_], _ => rfl
  have b__are_three_rows : Binds K d__are_three_rows ["marks", "value"] [] := F__are_three_rows.bindsN fun _ _ _ _ _ _ us hl => match us, hl with | [_, _], _ => rfl
  have b__law_purse : Binds K d__law_purse ["_law_script", "_law_at"] [] := F__law_purse.bindsN fun _ _ _ _ _ _ us hl => match us, hl with | [_, _], _ => rfl
  have b__law_mixed : Binds K d__law_mixed ["_law_seed", "_law_spin", "_law_at"] [] := F__law_mixed.bindsN fun _ _ _ _ _ _ us hl => match us, hl with | [_, _, _], _ => rfl
  have b__law_draw : Binds K d__law_draw ["_law_purse_here", "_law_many"] [] := F__law_draw.bindsN fun _ _ _ _ _ _ us hl => match us, hl with | [_, _], _ => rfl
  have b__law_purses : Binds K d__law_purses ["_law_script", "_law_few"] [] := F__law_purses.bindsN fun _ _ _ _ _ _ us hl => match us, hl with | [_, _], _ => rfl
  have b__law_one_of : Binds K d__law_one_of ["_law_purse_here", "_law_some"] [] := F__law_one_of.bindsN fun _ _ _ _ _ _ us hl => match us, hl with | [_, _], _ => rfl
  have b__law_shuffled : Binds K d__law_shuffled ["_law_purse_here", "_law_some"] [] := F__law_shuffled.bindsN fun _ _ _ _ _ _ us hl => match us, hl with | [_, _], _ => rfl
  have b__law_exact : Binds K d__law_exact ["_law_mine", "_law_theirs"] [] := F__law_exact.bindsN fun _ _ _ _ _ _ us hl => match us, hl with | [_, _], _ => rfl
  have b__law_word : Binds K d__law_word ["_law_purse_here"] [] := F__law_word.bindsN fun _ _ _ _ _ _ us hl => match us, hl with | [_], _ => rfl
  have b__law_words : Binds K d__law_words ["_law_purse_here", "_law_many"] [] := F__law_words.bindsN fun _ _ _ _ _ _ us hl => match us, hl with | [_, _], _ => rfl
  have b__law_marks : Binds K d__law_marks ["_law_purse_here", "_law_many"] [] := F__law_marks.bindsN fun _ _ _ _ _ _ us hl => match us, hl with | [_, _], _ => rfl
  have b__law_threes : Binds K d__law_threes ["_law_marks_here"] [] := F__law_threes.bindsN fun _ _ _ _ _ _ us hl => match us, hl with | [_], _ => rfl
  have b__law_majority : Binds K d__law_majority ["_law_purse_here", "_law_marks_here"] [] := F__law_majority.bindsN fun _ _ _ _ _ _ us hl => match us, hl with | [_, _], _ => rfl
  have b__law_middle : Binds K d__law_middle ["_law_order"] [] := F__law_middle.bindsN fun _ _ _ _ _ _ us hl => match us, hl with | [_], _ => rfl
  have b__law_free : Binds K d__law_free ["_law_marks_here"] [] := F__law_free.bindsN fun _ _ _ _ _ _ us hl => match us, hl with | [_], _ => rfl
  have b__law_is_major : Binds K d__law_is_major ["_law_marks_here", "_law_way"] [] := F__law_is_major.bindsN fun _ _ _ _ _ _ us hl => match us, hl with | [_, _], _ => rfl
  have b__law_way_right : Binds K d__law_way_right ["_law_marks_here", "_law_told", "_law_due"] [] := F__law_way_right.bindsN fun _ _ _ _ _ _ us hl => match us, hl with | [_, _, _], _ => rfl
  have G__law_draw := ok_draw (P := P) (w := w) (base := base) (mg := mg) F__law_draw N1 F__law_mixed (gd (p := ("_law_mixed", 37)) (by decide))
  have G__law_purse := ok_purse (P := P) (w := w) (base := base) (mg := mg) F__law_purse N1
  have G__law_purses := ok_purses (P := P) (w := w) (base := base) (mg := mg) F__law_purses N1 G__law_purse b__law_purse F__law_purse.kp (gd (p := ("_law_purse", 36)) (by decide))
  have G__law_one_of := ok_one (P := P) (w := w) (base := base) (mg := mg) F__law_one_of N1 G__law_draw b__law_draw F__law_draw.kp (gd (p := ("_law_draw", 38)) (by decide))
  have G__law_shuffled := ok_shuf (P := P) (w := w) (base := base) (mg := mg) F__law_shuffled N1 G__law_draw b__law_draw F__law_draw.kp (gd (p := ("_law_draw", 38)) (by decide))
  have G__law_exact := exact_all (P := P) (w := w) (base := base) (mg := mg) F__law_exact N1 N6 b__law_exact F__law_exact.kp (gd (p := ("_law_exact", 42)) (by decide)) 4
  have G__law_word := ok_word (P := P) (w := w) (base := base) (mg := mg) F__law_word N1 G__law_draw b__law_draw F__law_draw.kp (gd (p := ("_law_draw", 38)) (by decide))
  have G__law_words := ok_words (P := P) (w := w) (base := base) (mg := mg) F__law_words N1 N6 G__law_draw b__law_draw F__law_draw.kp (gd (p := ("_law_draw", 38)) (by decide)) G__law_word b__law_word F__law_word.kp (gd (p := ("_law_word", 43)) (by decide))
  have G__law_marks := ok_marks (P := P) (w := w) (base := base) (mg := mg) F__law_marks hso G__law_words b__law_words F__law_words.kp (gd (p := ("_law_words", 44)) (by decide))
  have G__law_threes := ok_threes (P := P) (w := w) (base := base) (mg := mg) F__law_threes N1
  have G__law_majority := ok_lawmaj (P := P) (w := w) (base := base) (mg := mg) F__law_majority G__law_threes b__law_threes F__law_threes.kp (gd (p := ("_law_threes", 46)) (by decide)) G__law_one_of b__law_one_of F__law_one_of.kp (gd (p := ("_law_one_of", 40)) (by decide))
  have G__law_middle := ok_lawmid (P := P) (w := w) (base := base) (mg := mg) F__law_middle hso G__law_threes b__law_threes F__law_threes.kp (gd (p := ("_law_threes", 46)) (by decide))
  have G__law_free := ok_lawfree (P := P) (w := w) (base := base) (mg := mg) F__law_free N1 N6 G__law_threes b__law_threes F__law_threes.kp (gd (p := ("_law_threes", 46)) (by decide))
  have G__law_is_major := ok_ismajor (P := P) (w := w) (base := base) (mg := mg) F__law_is_major (ok_threesB F__law_threes N1) b__law_threes F__law_threes.kp (gd (p := ("_law_threes", 46)) (by decide))
  have G__law_way_right := ok_wayright (P := P) (w := w) (base := base) (mg := mg) F__law_way_right N6 G__law_exact b__law_exact F__law_exact.kp (gd (p := ("_law_exact", 42)) (by decide)) G__law_threes b__law_threes F__law_threes.kp (gd (p := ("_law_threes", 46)) (by decide))
  have G_is_count := ok_iscount (P := P) (w := w) (base := base) (mg := mg) F_is_count N1 N6
  have G_is_word := ok_isword (P := P) (w := w) (base := base) (mg := mg) F_is_word N1 N6 N7
  have G_are_marks := ok_aremarks (P := P) (w := w) (base := base) (mg := mg) F_are_marks N1 N6 G_is_word b_is_word F_is_word.kp (gd (p := ("is_word", 9)) (by decide))
  have G_check_marks := ok_checkmarks (P := P) (w := w) (base := base) (mg := mg) F_check_marks G_are_marks b_are_marks F_are_marks.kp (gd (p := ("are_marks", 10)) (by decide))
  have G_is_order_of := ok_isorder (P := P) (w := w) (base := base) (mg := mg) F_is_order_of N1 N6
  have G_is_row := ok_isrow (P := P) (w := w) (base := base) (mg := mg) F_is_row N1 N6
  have G_threes_of := ok_threesof (P := P) (w := w) (base := base) (mg := mg) F_threes_of
  have G_mark_twice_in := ok_twice (P := P) (w := w) (base := base) (mg := mg) F_mark_twice_in
  have G_unlike_threes_of := ok_unlike (P := P) (w := w) (base := base) (mg := mg) F_unlike_threes_of G_threes_of b_threes_of F_threes_of.kp (gd (p := ("threes_of", 17)) (by decide)) G_mark_twice_in b_mark_twice_in F_mark_twice_in.kp (gd (p := ("mark_twice_in", 19)) (by decide))
  have G_is_way_over := ok_iswayover (P := P) (w := w) (base := base) (mg := mg) F_is_way_over N1 N6 G_threes_of b_threes_of F_threes_of.kp (gd (p := ("threes_of", 17)) (by decide))
  have G_is_majority_over := ok_ismajover (P := P) (w := w) (base := base) (mg := mg) F_is_majority_over N6 G_threes_of b_threes_of F_threes_of.kp (gd (p := ("threes_of", 17)) (by decide)) G_is_way_over b_is_way_over F_is_way_over.kp (gd (p := ("is_way_over", 20)) (by decide)) G_mark_twice_in b_mark_twice_in F_mark_twice_in.kp (gd (p := ("mark_twice_in", 19)) (by decide))
  have G_is_way := ok_isway (P := P) (w := w) (base := base) (mg := mg) F_is_way G_check_marks b_check_marks F_check_marks.kp (gd (p := ("check_marks", 11)) (by decide)) G_is_way_over b_is_way_over F_is_way_over.kp (gd (p := ("is_way_over", 20)) (by decide))
  have G_picker := ok_picker (P := P) (w := w) (base := base) (mg := mg) F_picker G_check_marks b_check_marks F_check_marks.kp (gd (p := ("check_marks", 11)) (by decide)) G_is_count b_is_count F_is_count.kp (gd (p := ("is_count", 8)) (by decide)) G_threes_of b_threes_of F_threes_of.kp (gd (p := ("threes_of", 17)) (by decide))
  have G_is_majority := ok_ismaj (P := P) (w := w) (base := base) (mg := mg) F_is_majority G_check_marks b_check_marks F_check_marks.kp (gd (p := ("check_marks", 11)) (by decide)) G_is_majority_over b_is_majority_over F_is_majority_over.kp (gd (p := ("is_majority_over", 21)) (by decide))
  have G__middle_of := ok_middleof (P := P) (w := w) (base := base) (mg := mg) F__middle_of hso
  have G_middle_way := ok_middleway (P := P) (w := w) (base := base) (mg := mg) F_middle_way G_check_marks b_check_marks F_check_marks.kp (gd (p := ("check_marks", 11)) (by decide)) G_is_order_of b_is_order_of F_is_order_of.kp (gd (p := ("is_order_of", 12)) (by decide)) G__middle_of b__middle_of F__middle_of.kp (gd (p := ("_middle_of", 26)) (by decide)) G_threes_of b_threes_of F_threes_of.kp (gd (p := ("threes_of", 17)) (by decide))
  have G__check_counted_marks := ok_counted (P := P) (w := w) (base := base) (mg := mg) F__check_counted_marks N1 gMost G_check_marks b_check_marks F_check_marks.kp (gd (p := ("check_marks", 11)) (by decide))
  have G_many_majorities := ok_many (P := P) (w := w) (base := base) (mg := mg) F_many_majorities N1 G__check_counted_marks b__check_counted_marks F__check_counted_marks.kp (gd (p := ("_check_counted_marks", 29)) (by decide)) G_unlike_threes_of b_unlike_threes_of F_unlike_threes_of.kp (gd (p := ("unlike_threes_of", 18)) (by decide))
  have G_majority_at := ok_majat (P := P) (w := w) (base := base) (mg := mg) F_majority_at N1 hdm hrv G__check_counted_marks b__check_counted_marks F__check_counted_marks.kp (gd (p := ("_check_counted_marks", 29)) (by decide)) G_is_count b_is_count F_is_count.kp (gd (p := ("is_count", 8)) (by decide)) G_many_majorities b_many_majorities F_many_majorities.kp (gd (p := ("many_majorities", 27)) (by decide)) G_unlike_threes_of b_unlike_threes_of F_unlike_threes_of.kp (gd (p := ("unlike_threes_of", 18)) (by decide)) G_mark_twice_in b_mark_twice_in F_mark_twice_in.kp (gd (p := ("mark_twice_in", 19)) (by decide)) G_threes_of b_threes_of F_threes_of.kp (gd (p := ("threes_of", 17)) (by decide))
  have G__gift := ok_gift (P := P) (w := w) (base := base) (mg := mg) F__gift N6
  have G__is_three_of_words := ok_isthree (P := P) (w := w) (base := base) (mg := mg) F__is_three_of_words N1 N6 G_is_word b_is_word F_is_word.kp (gd (p := ("is_word", 9)) (by decide))
  have G__are_three_rows := ok_threerows (P := P) (w := w) (base := base) (mg := mg) F__are_three_rows N1 N6 G_is_row b_is_row F_is_row.kp (gd (p := ("is_row", 14)) (by decide))
  have G__marks_of_way := ok_marksof (P := P) (w := w) (base := base) (mg := mg) F__marks_of_way N1 N6 hso G__is_three_of_words b__is_three_of_words F__is_three_of_words.kp (gd (p := ("_is_three_of_words", 33)) (by decide)) G_is_way_over b_is_way_over F_is_way_over.kp (gd (p := ("is_way_over", 20)) (by decide))
  have G_gift_of := ok_giftof (P := P) (w := w) (base := base) (mg := mg) F_gift_of G__marks_of_way b__marks_of_way F__marks_of_way.kp (gd (p := ("_marks_of_way", 32)) (by decide)) G__are_three_rows b__are_three_rows F__are_three_rows.kp (gd (p := ("_are_three_rows", 34)) (by decide)) G__gift b__gift F__gift.kp (gd (p := ("_gift", 30)) (by decide))
  have C : Cals P w K mg base := ⟨⟨_, _, G__law_purses, b__law_purses, F__law_purses.kp, gd (p := ("_law_purses", 39)) (by decide)⟩,
    ⟨_, _, G__law_draw, b__law_draw, F__law_draw.kp, gd (p := ("_law_draw", 38)) (by decide)⟩,
    ⟨_, _, G__law_marks, b__law_marks, F__law_marks.kp, gd (p := ("_law_marks", 45)) (by decide)⟩,
    ⟨_, _, G__law_threes, b__law_threes, F__law_threes.kp, gd (p := ("_law_threes", 46)) (by decide)⟩,
    ⟨_, _, G__law_free, b__law_free, F__law_free.kp, gd (p := ("_law_free", 49)) (by decide)⟩,
    ⟨_, _, G_picker, b_picker, F_picker.kp, gd (p := ("picker", 23)) (by decide)⟩,
    ⟨_, _, G__law_way_right, b__law_way_right, F__law_way_right.kp, gd (p := ("_law_way_right", 51)) (by decide)⟩,
    ⟨_, _, G__law_exact, b__law_exact, F__law_exact.kp, gd (p := ("_law_exact", 42)) (by decide)⟩,
    ⟨_, _, G_is_majority, b_is_majority, F_is_majority.kp, gd (p := ("is_majority", 24)) (by decide)⟩,
    ⟨_, _, G__law_shuffled, b__law_shuffled, F__law_shuffled.kp, gd (p := ("_law_shuffled", 41)) (by decide)⟩,
    ⟨_, _, G_middle_way, b_middle_way, F_middle_way.kp, gd (p := ("middle_way", 25)) (by decide)⟩,
    ⟨_, _, G__law_middle, b__law_middle, F__law_middle.kp, gd (p := ("_law_middle", 48)) (by decide)⟩,
    ⟨_, _, G_many_majorities, b_many_majorities, F_many_majorities.kp, gd (p := ("many_majorities", 27)) (by decide)⟩,
    ⟨_, _, G__law_majority, b__law_majority, F__law_majority.kp, gd (p := ("_law_majority", 47)) (by decide)⟩,
    ⟨_, _, G_majority_at, b_majority_at, F_majority_at.kp, gd (p := ("majority_at", 28)) (by decide)⟩,
    ⟨_, _, G_is_way, b_is_way, F_is_way.kp, gd (p := ("is_way", 22)) (by decide)⟩,
    ⟨_, _, G__law_is_major, b__law_is_major, F__law_is_major.kp, gd (p := ("_law_is_major", 50)) (by decide)⟩,
    ⟨_, _, G_gift_of, b_gift_of, F_gift_of.kp, gd (p := ("gift_of", 31)) (by decide)⟩,
    ⟨_, _, G__law_one_of, b__law_one_of, F__law_one_of.kp, gd (p := ("_law_one_of", 40)) (by decide)⟩⟩
  exact ok_law F_law C N1 N6
end Yt

set_option Elab.async false
set_option linter.all false
set_option maxRecDepth 100000
set_option maxHeartbeats 0
open PySem PySem.W PySem.Calls PyProof.Rows
theorem PySem.Challenge.cw_pairtells_k07_whole_pickers_majorities_a_holds : PySem.Challenge.rw_pairtells_k07_whole_pickers_majorities_a.Holds := by
  w_on; o_law
  refine HandSHeadRun.head_any (r := OpenLaw.row PySem.Challenge.rw_pairtells_k07_whole_pickers_majorities_a) (q := view (OpenLaw.row PySem.Challenge.rw_pairtells_k07_whole_pickers_majorities_a).prog [52]) (H := Yt.hkY) (ob := Yt.obT) (M := 10000) (loose := Yt.looseY) (d := HandSHeadRun.topDef (OpenLaw.row PySem.Challenge.rw_pairtells_k07_whole_pickers_majorities_a).prog 52) (kwd := []) Yt.obT_eq
    (by kernel_rfl) (fun s => by kernel_rfl) Yt.run (by kernel_rfl) (by kernel_rfl) (by kernel_rfl) (by rfl) (by first | assumption | decide +kernel) (by decide +kernel) ⟨rfl, rfl, rfl, rfl, rfl, by decide +kernel⟩ ?hw ?hc
  case hw => w_witness2
  case hc =>
    refine L2.walk_ofE (l := PySem.Challenge.rw_pairtells_k07_whole_pickers_majorities_a) (n := 63) (k := 7) (x := "_law_script") (CX := L2.CX0) rfl (by decide) (by kernel_rfl) ⟨rfl, by decide, by decide⟩ ?F (fun _ _ _ _ z => z)
    intro w mg fa h Y G hmg0
    obtain ⟨K, KX, c⟩ := Y
    have hmg : mg ("law" : PySem.Str) = some (.ref fa) := by
      have e : (HandSHeadRun.topDef (OpenLaw.row PySem.Challenge.rw_pairtells_k07_whole_pickers_majorities_a).prog 52).name = ("law" : PySem.Str) := by kernel_rfl
      rw [← e]
      exact hmg0
    obtain ⟨fd, hb, hF⟩ := Yt.facts (P := (PySem.Challenge.rw_pairtells_k07_whole_pickers_majorities_a).prog) (w := w) KX G hmg c
    exact ⟨K, fd, Yt.spLaw K, KX, hb, fun H a ns hl _ hS => ⟨a, ns, rfl, hS, hl, fun _ => rfl⟩, hF⟩
