import PyProof.Rows.All
import Wide.All
import OpenK.AllK
import Wide.FinOn
import PyProof.EqAt
import PyProof.EqKinds
import PyProof.TupleCall
import KE.KFromBytes
import KE.KIsAll
import KE.KTryMore
import HandS.ForMost
import HandS.Exc
import HandS.ExcOwn
import HandS.ExcInit
import HandS.ExcIs
import HandS.ExcField
import HandS.Defaults
import HandS.HeadEnd
import HandS.HeadHook1
import HandS.HeadHook2
import HandS.Wide
import HandS.WideBits
import HandS.DictComp
import HandS.Walk
import KE.KDictPairs
import HandS.More
import HandS.IsInst
import HandS.Zip
import HandS.Conv
import PyProof.ListStr
import HandS.Text
import HandS.TupAny
import HandS.TupSets
import HandS.SetBool
import HandS.SetKeys
import KE.SortData
import HandS.ForList
import HandS.Comp
import HandS.TupLen
import HandS.OwnEq
import HandS.Deep
import HandS.Style
import KE.KDictWalk
import HandS.ListItems
import HandS.TupMul
import HandS.Steps
import KE.KStateDown
import HandS.Head0
import HandS.Head1
import HandS.Head2
import PySem.Challenge.RW_pairtells_k08_whole_tables_kept_and_clos
set_option Elab.async false
set_option linter.all false
set_option maxRecDepth 100000
set_option maxHeartbeats 2000000
namespace Yt
open PySem PySem.Spec PyProof.Rows L2
/-! ### promises that know of no guard on the way: repr may be asked -/
section
variable {P : Program} {w : World} {K : PySem.W.Frag} {mg : Str → Option Value} {base : Heap}
structure FnOkG (P : Program) (w : World) (K : PySem.W.Frag) (mg : Str → Option Value) (base : Heap) (CX : CXT) (k : Nat) (f : Addr) (fd : FuncData) (ps : List Str) (sp : Sp) : Prop where
  len : ∀ vs H Q E, sp vs H Q E → vs.length = ps.length
  run : ∀ (A : Around) (outer : List Env) (s : Shared) (H : Hp) (args : Args) (us : List Value) (vs : List V) (Q : VK) (E : XK), A.guards = some [] → Room k A → Env0 P w K mg base A outer s H → BindsTo s fd args (ps.zip us) → Vals vs us → sp vs H Q E →
    codeAny (model P w) A (.call (.ref f) args) (CR CX outer P w H s Q E) s
theorem fn_ofG {CX : CXT} {k : Nat} {f : Addr} {name qual : Str} {params : Arguments} {body : List Stmt} {scope : Scope} {dV kV doc pm cdv ct oc : Value} {an od : Option Addr}
    {osl : Array (Option Value)} {N ps : List Str} {sp : Sp} (lk : K.lookup f = some ⟨oc, od, .func (PySem.W.fnOf name qual params body scope dV kV doc pm an cdv ct), osl⟩) (hcd : PySem.W.codeIn K cdv qual = true) (S : FnScope N ps scope)
    (len : ∀ vs H Q E, sp vs H Q E → vs.length = ps.length)
    (hbody : ∀ (A : Around) (outer : List Env) (s : Shared) (H : Hp) (vs : List V) (Q : VK) (E : XK), (A.deeper (envOfC qual scope s.heap.objs.size f cdv)).guards = some [] → Room k (A.deeper (envOfC qual scope s.heap.objs.size f cdv)) → sp vs H Q E →
      ∃ t, PSs (cxOf CX P w K mg base N qual scope f cdv A outer s H E) body t ∧ t { nx := fun _ H' => Q .non H', rt := Q } (start N vs) H) :
    FnOkG P w K mg base CX (k + 1) f (PySem.W.fnOf name qual params body scope dV kV doc pm an cdv ct) ps sp := by
  refine ⟨len, fun A outer s H args us vs Q E hgd hr e0 hb r hsp => ?_⟩
  have hl := len _ _ _ _ hsp
  have KX : K.In s.heap := e0.mod.kin.keeps fun b o e => (e0.bs b o e).1
  have lim : s.heap.NoLimit := e0.mod.nolimit.keeps fun b o e => (e0.bs b o e).1
  have hkind : ∀ y ∈ ps.zip us, scope.names.lookup y.1 = some .local ∨ (scope.names.lookup y.1 = some .cell ∧ ((cellsFrom (s.heap.objs.size + 1) scope.names []).lookup y.1).isSome = true) := fun ⟨n, v⟩ hy => by
    rcases S.par n (List.of_mem_zip hy).1 with q | q
    · exact .inl q
    · exact .inr ⟨q, PySem.W.cellsFrom_some _ _ _ (.inl q)⟩
  refine codeAny_call_function hr.depth (KX _ _ lk) rfl S.co S.gen rfl (PySem.W.codeRec_of KX hcd) (hb _ _ _ _ ?_)
  refine wpAny_newFunctionEnv_cells S.kind hkind fun env he s1 x => ?_
  subst he
  refine ⟨lim.keeps x.toInCall.keep, codeAny_func ?_⟩
  obtain ⟨t, ht, hq⟩ := hbody A outer s H vs Q E hgd (hr.deeper _) hsp
  have I : Inv (cxOf CX P w K mg base N qual scope f cdv A outer s H E) [] (start N vs) H s1 := inv_start S hr.hd e0 hl r x
  refine wpAny_mono (ht.run [] s1 (start N vs) H _ I hq) (fun fl s' hs => ?_) fun e s' hs => hs
  have fin : ∀ {σ' : L2.St} {H' : Hp} {v : V} {u : Value}, Inv (cxOf CX P w K mg base N qual scope f cdv A outer s H E) [] σ' H' s' → RelV v u → Q v H' → CE outer P w H s Q u s' :=
    fun {σ' H' v u} J rv q => ⟨v, H', J.os, J.bare, J.base, J.hok, rv, q⟩
  cases fl with
  | ret u =>
    obtain ⟨v, σ', H', J, rv, q⟩ := hs
    exact fin J rv q
  | next =>
    obtain ⟨σ', H', J, q⟩ := hs
    exact fin (v := V.non) (u := Value.none) J rfl q
  | brk =>
    obtain ⟨_, _, _, q⟩ := hs
    exact False.elim q
  | cont =>
    obtain ⟨_, _, _, q⟩ := hs
    exact False.elim q
theorem okG {CX : CXT} {x qual : Str} {params : Arguments} {body : List Stmt} {scope : Scope} {dvs : List V} {kws : List (Str × V)} {f : Addr} {fd : FuncData} {N ps : List Str} {k : Nat} {sp : Sp} (F : FunD K x qual params body scope dvs kws f fd) (S : FnScope N ps scope) (len : ∀ vs H Q E, sp vs H Q E → vs.length = ps.length)
    (hbody : ∀ (cdv : Value) (A : Around) (outer : List Env) (s : Shared) (H : Hp) (vs : List V) (Q : VK) (E : XK), (A.deeper (envOfC qual scope s.heap.objs.size f cdv)).guards = some [] → Room k (A.deeper (envOfC qual scope s.heap.objs.size f cdv)) → sp vs H Q E →
      ∃ t, PSs (cxOf CX P w K mg base N qual scope f cdv A outer s H E) body t ∧ t { nx := fun _ H' => Q .non H', rt := Q } (start N vs) H) : FnOkG P w K mg base CX (k + 1) f fd ps sp := by
  obtain ⟨oc, od, dV, kV, doc, pm, an, cdv, ct, osl, rfl, lk, hcd, _, _⟩ := F.ex
  exact fn_ofG lk hcd S len fun A outer s H vs Q E hg hr hsp => hbody cdv A outer s H vs Q E hg hr hsp
end
section
variable {X : Cx} {CX : CXT} {k : Nat} {f C : Addr} {fd : FuncData} {ps : List Str} {sp : Sp} {dvs : List V} {ds : List Value} {E : XK} {x m : Str} {p pos apos : Pos} {e o : Expr} {es : List Expr} {ta : TE} {t : TA}
theorem run_fnG {pins : List (Addr × Obj)} {σ : L2.St} {H : Hp} {s : Shared} {Q : VK} {us : List Value} {vs : List V} (F : FnOkG X.prog X.w X.K X.mg X.base CX k f fd ps sp) (hgd : X.A.guards = some []) (hr : Room k X.A) (hb : Binds X.K fd ps ds) (hd : Vals dvs ds) (hx : Passes CX X E)
    (I : Inv X pins σ H s) (r : Vals vs us) (h : sp (vs ++ dvs) H Q E) : wpAny (model X.prog X.w) X.A (call (.ref f) us) (EP X pins σ Q) X.xe s := by
  have r2 : Vals (vs ++ dvs) (us ++ ds) := r.append hd
  have hl : (us ++ ds).length = ps.length := by rw [← r2.length]; exact F.len _ _ _ _ h
  refine wpAny_call (codeAny_mono (F.run X.A X.stack s H ⟨us, []⟩ (us ++ ds) (vs ++ dvs) Q E hgd hr I.env0 (hb s us I.kIn hl) r2 h) fun r s' hq => ?_)
  cases r with
  | error e => exact hx pins σ H s e s' I hq
  | ok fl =>
    cases fl with
    | ret u => exact I.after hq
    | next => exact False.elim hq
    | brk => exact False.elim hq
    | cont => exact False.elim hq
theorem pe_callG (F : FnOkG X.prog X.w X.K X.mg X.base CX k f fd ps sp) (hgd : X.A.guards = some []) (hr : Room k X.A) (hg : Gl X x) (hm : X.mg x = some (.ref f)) (hk : PySem.W.keepIn X.K (.ref f) = true) (hb : Binds X.K fd ps ds) (hd : Vals dvs ds) (hx : Passes CX X E)
    (ha : PA X (e :: es) t) (hdb : (x == ("__debug__" : Str)) = false := by decide) (he : starEach (e :: es) X.env = (false, eval e X.env) :: starEach es X.env := by rfl) (hpl : (backTo pos (starEach es X.env)).any (·.1) = false := by rfl) :
    PE X (.Call (.Name x p) (e :: es) [] pos) (tCall sp dvs E t) := by
  refine ⟨fun pins s σ H Q I h => ?_⟩
  refine wpAny_Call_Name_kw (ld_glob I hg hm ?_ hdb)
  refine PySem.W.callWith_K (h₀ := X.base) I.ok.mod.kin hk (thn (ha.run pos pins s σ H _ I h) fun us s1 ⟨vs, H1, I1, r, q⟩ => ⟨I1.kIn, ?_⟩) he hpl
  exact run_fnG F hgd hr hb hd hx I1 r q
end
/-! ### powers of great numbers -/
def CPowW (i j : Int) : Prop := 0 ≤ j ∧ (Builtin.Int.intBits i : Int) * j ≤ 2 ^ 27
theorem op_powW {X : Cx} : OpR X (binaryOp .Pow) (rI CPowW fun i j => .int (i ^ j.toNat)) := opI fun _ _ _ _ _ _ _ hc q => pow_int hc.1 hc.2 q
theorem dict_sz1 : ∀ ds : List (PyData × PyData), sizeOf (ds.map (·.1)) < 1 + sizeOf ds
  | [] => by simp
  | (k, v) :: r => by
    have := dict_sz1 r
    simp only [List.map_cons, List.cons.sizeOf_spec, Prod.mk.sizeOf_spec]
    omega
theorem dict_sz2 : ∀ ds : List (PyData × PyData), sizeOf (ds.map (·.2)) < 1 + sizeOf ds
  | [] => by simp
  | (k, v) :: r => by
    have := dict_sz2 r
    simp only [List.map_cons, List.cons.sizeOf_spec, Prod.mk.sizeOf_spec]
    omega
/-! ### data, dicts too: what repr says -/
mutual
inductive Rp (H : Hp) : V → PyData → Prop
  | non : Rp H .non .none
  | bl (b : Bool) : Rp H (.bl b) (.bool b)
  | int (i : Int) : Rp H (.int i) (.int i)
  | str (x : Str) : Rp H (.str x) (.str x)
  | lst {a : Addr} {xs : List V} {ds : List PyData} : Rd H a (.lst xs) → RpAll H xs ds → Rp H (.ref a) (.list ds)
  | tup {a : Addr} {xs : List V} {ds : List PyData} : Rd H a (.tup xs) → RpAll H xs ds → Rp H (.ref a) (.tuple ds)
  | dct {a : Addr} {kvs : List (Key × V)} {ds : List (PyData × PyData)} : H a = some (.dK kvs) → RpAll H (kvs.map fun p => kV p.1) (ds.map (·.1)) → RpAll H (kvs.map (·.2)) (ds.map (·.2)) → Rp H (.ref a) (.dict ds)
inductive RpAll (H : Hp) : List V → List PyData → Prop
  | nil : RpAll H [] []
  | cons {v : V} {vs : List V} {d : PyData} {ds : List PyData} : Rp H v d → RpAll H vs ds → RpAll H (v :: vs) (d :: ds)
end
theorem RpAll.two {H : Hp} {x y : V} {d e : PyData} (h : Rp H x d) (g : Rp H y e) : RpAll H [x, y] [d, e] := .cons h (.cons g .nil)
theorem rd_same {H H' : Hp} {a : Addr} {o : HO} (s : Same H H') (h : Rd H a o) : Rd H' a o := by
  rcases h with h | ⟨u, h⟩
  · exact .inl (s _ _ h)
  · exact .inr ⟨u, s _ _ h⟩
mutual
theorem Rp.same {H H' : Hp} (s : Same H H') : ∀ {v : V} {d : PyData}, Rp H v d → Rp H' v d
  | _, _, .non => .non
  | _, _, .bl b => .bl b
  | _, _, .int i => .int i
  | _, _, .str x => .str x
  | _, _, .lst h g => .lst (rd_same s h) (RpAll.same s g)
  | _, _, .tup h g => .tup (rd_same s h) (RpAll.same s g)
  | _, _, .dct h g k => .dct (s _ _ h) (RpAll.same s g) (RpAll.same s k)
theorem RpAll.same {H H' : Hp} (s : Same H H') : ∀ {v : List V} {d : List PyData}, RpAll H v d → RpAll H' v d
  | _, _, .nil => .nil
  | _, _, .cons h g => .cons (Rp.same s h) (RpAll.same s g)
end
theorem pairs_key {P : Program} {w : World} {kvs : List (Key × V)} {vs : List (Key × Value)} (r : KV kvs vs) : ∀ {es : List DictEntry}, Pairs (mixKind P w) es vs → Vals (kvs.map fun p => kV p.1) (es.map (·.key)) ∧ Vals (kvs.map (·.2)) (es.map (·.val)) := by
  induction r with
  | nil =>
    intro es p
    cases p
    exact ⟨.nil, .nil⟩
  | cons h t ih =>
    intro es p
    cases p with
    | cons hk hv hr =>
      obtain ⟨i1, i2⟩ := ih hr
      obtain ⟨e1, e2⟩ := h
      refine ⟨.cons ?_ i1, .cons ?_ i2⟩
      · dsimp only
        rw [mixKind_is] at hk
        rw [← e1] at hk
        rcases keyIs_shape hk with ⟨i, t, q1, q2⟩ | ⟨x, t, q1, q2⟩
        · rw [q1, q2]
          exact ⟨t, rfl⟩
        · rw [q1, q2]
          exact ⟨t, rfl⟩
      · dsimp only
        rw [hv]
        exact e2
section
variable {X : Cx} {pins : List (Addr × Obj)} {σ : L2.St} {H : Hp} {s : Shared}
theorem not_sys (I : Inv X pins σ H s) (hS : ∃ o, X.K.lookup sysModules = some o) {a : Addr} {o : HO} (h : H a = some o) : a ≠ sysModules := fun z => by
  obtain ⟨u, hu⟩ := hS
  have q := (I.bs _ _ (I.ok.mod.kin _ _ hu)).2
  rw [z, q] at h
  cases h
theorem rd_some {H : Hp} {a : Addr} {o : HO} (h : Rd H a o) : ∃ u, H a = some u := by
  rcases h with h | ⟨u, h⟩
  · exact ⟨_, h⟩
  · exact ⟨_, h⟩
mutual
theorem Rp.reads (I : Inv X pins σ H s) (hS : ∃ o, X.K.lookup sysModules = some o) : ∀ (d : PyData) (v : V) (u : Value), Rp H v d → RelV v u → ∃ as, Reads s.heap u d as ∧ sysModules ∉ as
  | .none, _, _, h, r => by
    cases h
    cases r
    exact ⟨_, Reads.none, fun z => nomatch z⟩
  | .bool b, _, _, h, r => by
    cases h
    cases r
    exact ⟨_, Reads.bool b, fun z => nomatch z⟩
  | .int i, _, _, h, r => by
    cases h
    obtain ⟨t, rfl⟩ := r
    exact ⟨_, Reads.int i t, fun z => nomatch z⟩
  | .str x, _, _, h, r => by
    cases h
    obtain ⟨t, rfl⟩ := r
    exact ⟨_, Reads.str x t, fun z => nomatch z⟩
  | .list ds, _, _, h, r => by
    cases h with
    | lst hs ha =>
      cases r
      obtain ⟨its, rv, ⟨o, n, ho, hc, _, hd⟩, _⟩ := I.list (.inl hs)
      obtain ⟨as, hr, hn⟩ := RpAll.reads I hS ds _ its ha rv
      obtain ⟨_, hz⟩ := rd_some hs
      exact ⟨_, Reads.list ho hc hd hr, fun z => (List.mem_cons.mp z).elim (fun e => not_sys I hS hz e.symm) hn⟩
  | .tuple ds, _, _, h, r => by
    cases h with
    | tup hs ha =>
      cases r
      obtain ⟨its, rv, ⟨o, ho, hc, n, hd⟩, _⟩ := I.tuple (.inl hs)
      obtain ⟨as, hr, hn⟩ := RpAll.reads I hS ds _ its ha rv
      exact ⟨_, Reads.tuple ho hc hd hr, hn⟩
  | .dict ds, _, _, h, r => by
    cases h with
    | dct hs hk hv =>
      cases r
      obtain ⟨_, hsy, vs, rkv, o, es, ep, ho, hx, hd, _, hp, _⟩ := dk_of I.hok hs
      obtain ⟨r1, r2⟩ := pairs_key rkv hp
      obtain ⟨as, h1, n1⟩ := RpAll.reads I hS (ds.map (·.1)) _ _ hk r1
      obtain ⟨bs, h2, n2⟩ := RpAll.reads I hS (ds.map (·.2)) _ _ hv r2
      refine ⟨_, Reads.dict ho hx.1 hd h1 h2, fun z => ?_⟩
      rcases List.mem_append.mp z with z | z
      · rcases List.mem_cons.mp z with z | z
        · exact not_sys I hS hs z.symm
        · exact n1 z
      · exact n2 z
  termination_by d => sizeOf d
  decreasing_by
    all_goals simp_wf
    all_goals first | omega | exact dict_sz1 _ | exact dict_sz2 _
theorem RpAll.reads (I : Inv X pins σ H s) (hS : ∃ o, X.K.lookup sysModules = some o) : ∀ (ds : List PyData) (vs : List V) (us : List Value), RpAll H vs ds → Vals vs us → ∃ as, ReadsAll s.heap us ds as ∧ sysModules ∉ as
  | [], _, _, h, r => by
    cases h
    cases r
    exact ⟨_, ReadsAll.nil, fun z => nomatch z⟩
  | d :: ds, _, _, h, r => by
    cases h with
    | cons h1 h2 =>
      cases r with
      | cons r1 r2 =>
        obtain ⟨as, q1, n1⟩ := Rp.reads I hS d _ _ h1 r1
        obtain ⟨bs, q2, n2⟩ := RpAll.reads I hS ds _ _ h2 r2
        exact ⟨_, ReadsAll.cons q1 q2, fun z => (List.mem_append.mp z).elim n1 n2⟩
  termination_by ds => sizeOf ds
  decreasing_by
    all_goals simp_wf
    all_goals omega
end
end

section
variable {X : Cx}
/-- repr of data -/
def rRepr : List V → Hp → VK → Prop := fun xs H Q => ∃ x d, xs = [x] ∧ Rp H x d ∧ d.showable = true ∧ d.shown.length ≤ sizeLine ∧ d.depth ≤ 60 ∧ Q (.str d.shown) H
theorem call_repr {k : Nat} (hr : Room k X.A) (hgd : X.A.guards = some []) (hS : ∃ o, X.K.lookup sysModules = some o) : CallR X (.builtin "repr") rRepr := by
  intro pins s σ H xs us Q I r h
  obtain ⟨x, d, rfl, hd, hs, hz, hdp, q⟩ := h
  obtain ⟨u, rfl, ru⟩ := vals1 r
  have hu := hr.units
  have done : ∀ h' u tk, (∀ b o, s.heap.get? b = some o → h'.get? b = some o) → EP X pins σ Q (.str d.shown u) { s with heap := h', toks := tk } := fun h' u tk hk => ⟨.str d.shown, H, I.kept hk, ⟨u, rfl⟩, q⟩
  have big : ∀ a, u = .ref a → wpAny (model X.prog X.w) X.A (call (.builtin "repr") [u]) (EP X pins σ Q) X.xe s := fun a e => by
    obtain ⟨as, rd, hn⟩ := Rp.reads I hS d x u hd ru
    subst e
    exact repr_of_reads' rd hs (fun _ => hn) hgd (by omega) (fun _ _ z => z) (fun h' u tk hk => done h' u tk hk) hz
  cases hd with
  | non =>
    obtain rfl : u = Value.none := ru
    have e : (PyData.none).shown = ("None" : Str) := PyData.shown_none
    rw [e] at q
    exact PySem.P.repr_of_none ⟨.str _, H, I.tok _, ⟨_, rfl⟩, q⟩
  | bl b =>
    obtain rfl : u = Value.bool b := ru
    rw [PyData.shown_bool] at q
    exact PySem.P.repr_of_bool ⟨.str _, H, I.tok _, ⟨_, rfl⟩, q⟩
  | int i =>
    obtain ⟨t, rfl⟩ := ru
    rw [PyData.shown_int] at q
    exact PySem.P.repr_of_int (by simpa [PyData.showable] using hs) ⟨.str _, H, I.tok _, ⟨_, rfl⟩, q⟩
  | str y =>
    obtain ⟨t, rfl⟩ := ru
    rw [PyData.shown_str] at q hz
    exact PySem.P.repr_of_str ⟨.str _, H, I.tok _, ⟨_, rfl⟩, q⟩ hz
  | lst _ _ => exact big _ ru
  | tup _ _ => exact big _ ru
  | dct _ _ _ => exact big _ ru
end
end Yt

set_option Elab.async false
set_option linter.all false
set_option maxRecDepth 100000
set_option maxHeartbeats 2000000
namespace PySem
namespace YtE
open PySem PySem.W PySem.Calls PyProof.Rows PySem.HandSPX
/-! ### type.__call__ on an own exception class with keywords: the keywords go to __init__ alone -/
section
variable {M : Model} {A : Around} {E : Value → Shared → Prop} {h : Heap} {g : Array GenState} {d : Drawn} {t : Nat} {os : OsState}
variable {nm q : Str} {C N : Addr} {bs bm bmB : List Value} {hdct : Bool} {sn : List Str} {sub : List Value} {ab : Bool} {col : Option Bool} {dd : Option Addr} {k0 k1 k2 k3 k5 : Option Value} {B newId initId : String}
theorem check_new_ownK (F : ExcBaseFacts B newId initId bmB) (hT : ∀ X : String, bm.contains (.type X) = bmB.contains (.type X)) {rest : List Value} {kw : List (Str × Value)} {Q : Unit → Shared → Prop}
    (hC : h.get? C = some (excClassObj nm q C N bs bm hdct sn sub ab col dd k0 k1 k2 k3 k5 newId)) (hq : Q () ⟨h, g, d, t, os⟩) : wpAny M A (checkBuiltinCall newId ⟨.ref C :: rest, kw⟩) Q E ⟨h, g, d, t, os⟩ := by
  have hcont : (Value.ref C :: bm).contains (.type B) = true := by rw [List.contains_cons, hT, F.hasB, Bool.or_true]
  have hstar := F.noStar
  simp only [checkBuiltinCall, F.newKind, F.newSplit, F.newRow]
  repeat (first | refine wpAny_loadPart_at hC ?_ | (refine wpAny_isSubtype_exc hC ?_; rw [hcont]) | refine wpAny_staticBase_exc hC ?_ | refine wpAny_madeBy_exc hC ?_ | simp only [bne_self_eq_false, Bool.false_eq_true, if_false] | wp_step)
  exact hq
end
section
variable {prog : Program} {w : World} {A : Around} {E : Value → Shared → Prop} {R : Result → Shared → Prop} {h : Heap} {g : Array GenState} {d : Drawn} {t : Nat} {os : OsState}
variable {nm q : Str} {C N : Addr} {bs bm bmB : List Value} {hdct : Bool} {sn : List Str} {sub : List Value} {ab : Bool} {col : Option Bool} {dd : Option Addr} {k0 k1 k2 k3 k5 : Option Value} {B newId initId : String}
theorem new_ownK (F : ExcBaseFacts B newId initId bmB) (hT : ∀ X : String, bm.contains (.type X) = bmB.contains (.type X)) {rest : List Value} {kw : List (Str × Value)}
    (hC : h.get? C = some (excClassObj nm q C N bs bm hdct sn sub ab col dd k0 k1 k2 k3 k5 newId))
    (hq : R (.ok (.ret (.ref (h.objs.size + 1)))) ⟨(h.push { cls := .type "tuple", data := .seq rest.toArray }).push
      { cls := .ref C, data := .fields #[.ref h.objs.size, .none, .none, .none, .bool false, .none] }, g, d, t, os⟩) (hrest : rest.length ≤ sizeLine) :
    codeAny (model prog w) A (.builtin newId ⟨.ref C :: rest, kw⟩) R ⟨h, g, d, t, os⟩ := by
  have hends := F.ends
  have hcB : (Value.ref C :: bm).contains (.type B) = true := by rw [List.contains_cons, hT, F.hasB, Bool.or_true]
  have hcA : (Value.ref C :: bm).contains (.type "AttributeError") = false := by rw [List.contains_cons, hT, F.noAttr]; rfl
  have hcN : (Value.ref C :: bm).contains (.type "NameError") = false := by rw [List.contains_cons, hT, F.noName]; rfl
  refine codeAny_builtinAt F.entry ?_
  unfold Builtin.«BaseException.__new__»
  refine PySem.wpAt_bind ?_
  show PySem.wpAt _ _ _ (stack >>= _) _ _ _
  refine PySem.wpAt_bind (PySem.wpAt_stack fun p below => PySem.wpAt_of_wpAny ?_)
  wp_walk
  refine PySem.wpAt_of_wpAny ?_
  rw [F.owner]
  repeat (first | with_reducible refine wpAny_madeHere_exc F.canon hC ?_ | with_reducible refine wpAny_loadPart_at hC ?_ | (with_reducible refine wpAny_isSubtype_exc hC ?_; first | rw [hcB] | rw [hcA] | rw [hcN]) | wp_step)
  show R _ _
  rw [Heap.size_push]
  exact hq
theorem type_call_ownK (F : ExcBaseFacts B newId initId bmB) (hT : ∀ X : String, bm.contains (.type X) = bmB.contains (.type X)) {rest : List Value} {kw : List (Str × Value)} {fI : Addr} {Q : Fin → Shared → Prop}
    (hC : h.get? C = some (excClassObj nm q C N bs bm hdct sn sub ab col dd k0 k1 k2 k3 k5 newId))
    (hi : W.Looks (model prog w) h (typeLookup (.ref C) "__init__") (some (.ref fI))) (hb : ∀ self, W.Looks (model prog w) h (bindSpecial (.ref fI) self) (.ref fI, [self])) (hrest : rest.length ≤ sizeLine)
    (hq : codeAny (model prog w) A (.call (.ref fI) ⟨.ref (h.objs.size + 1) :: rest, kw⟩)
      (fun r s' => match r with | .ok (.ret v) => v = .none ∧ Q (.done (.ret (.ref (h.objs.size + 1)))) s' | .ok _ => False | .error e => E e s')
      ⟨(h.push (W.kdv_tup rest)).push (HandSPX.excO C h.objs.size), g, d, t, os⟩) :
    wpAny (model prog w) A (Builtin.«type.__call__» ⟨.ref C :: rest, kw⟩) Q E ⟨h, g, d, t, os⟩ := by
  repeat (first | with_reducible refine wpAny_loadPart_at hC ?_ | with_reducible refine wpAny_madeBy_exc hC ?_ | wp_step)
  refine codeAny_call_builtin_code (Code.quiet_builtin _ F.quiet) (check_new_ownK F hT hC ?_)
  refine new_ownK F hT hC ?_ hrest
  show wpAny _ _ _ _ _ _
  have k : ∀ b o, h.get? b = some o → ((h.push (W.kdv_tup rest)).push (HandSPX.excO C h.objs.size)).get? b = some o := fun b o e => Heap.get?_push_of_some _ (Heap.get?_push_of_some _ e)
  have hC₁ := k _ _ hC
  have hget : ((h.push (W.kdv_tup rest)).push (HandSPX.excO C h.objs.size)).get? (h.objs.size + 1) = some (HandSPX.excO C h.objs.size) := by heap_get
  have hcC : (Value.ref C :: bm).contains (.ref C) = true := by simp
  have i1 := hi.keeps k
  have b1 := (hb (.ref (h.objs.size + 1))).keeps k
  unfold isInstance
  repeat (first | with_reducible refine wpAny_loadPart_at hget ?_ | (with_reducible refine wpAny_isSubtype_exc hC₁ ?_; rw [hcC]) | wp_step)
  show wpAny _ _ (typeLookup (.ref C) _) _ _ _
  refine i1.at ?_
  refine wpAny_holding (wpAny_bind (b1.at ?_))
  refine wpAny_bind (wpAny_call (codeAny_mono hq fun r s' z => ?_))
  rcases r with e | (v | _ | _ | _) <;> first | exact z | exact z.elim | skip
  obtain ⟨rfl, z⟩ := z
  first
    | exact wpAny_pure (wpAny_pure z)
    | (wp_walk; exact z)
theorem call_ownK (F : ExcBaseFacts B newId initId bmB) (hT : ∀ X : String, bm.contains (.type X) = bmB.contains (.type X)) {rest : List Value} {kw : List (Str × Value)} {fI : Addr}
    (hC : h.get? C = some (excClassObj nm q C N bs bm hdct sn sub ab col dd k0 k1 k2 k3 k5 newId))
    (hi : W.Looks (model prog w) h (typeLookup (.ref C) "__init__") (some (.ref fI))) (hb : ∀ self, W.Looks (model prog w) h (bindSpecial (.ref fI) self) (.ref fI, [self])) (hrest : rest.length ≤ sizeLine)
    (hq : codeAny (model prog w) (A.under (.builtin "type.__call__" ⟨.ref C :: rest, kw⟩)) (.call (.ref fI) ⟨.ref (h.objs.size + 1) :: rest, kw⟩) (W.InitBack (h.objs.size + 1) R)
      ⟨(h.push (W.kdv_tup rest)).push (HandSPX.excO C h.objs.size), g, d, t, os⟩) :
    codeAny (model prog w) A (.call (.ref C) ⟨rest, kw⟩) R ⟨h, g, d, t, os⟩ := by
  have f1 := tc_lookup
  have f2 := tc_bind (.ref C)
  have hTy : (⟨h, g, d, t, os⟩ : Shared).TypeIs (.ref C) "type" := ⟨_, hC, rfl⟩
  refine codeAny_of_tree ?_
  show wpAny _ _ (callAny (.ref C) _) _ _ _
  repeat (any_goals (first | assumption | with_reducible refine wpAny_loadPart_at hC ?_ | wp_step))
  refine ⟨rfl, ?_⟩
  refine codeAny_call_builtin_at (Code.quiet_builtin _ (by decide +kernel)) entry_typeCall (wpAny_check_type_call_sub hC (type_call_ownK F hT hC hi hb hrest ?_))
  refine codeAny_mono hq fun r s' z => ?_
  rcases r with e | (v | _ | _ | _) <;> exact z
end
end YtE
end PySem

set_option Elab.async false
set_option linter.all false
set_option maxRecDepth 100000
set_option maxHeartbeats 2000000
namespace Yt
open PySem PySem.Spec PyProof.Rows L2
/-- at e an error of the class at C, its field value holds v -/
def ErrAt (H : Hp) (e C : Addr) (v : V) : Prop := ∃ d, H e = some (exo e C (some d)) ∧ H d = some (exd d [(("value" : Str), v)])
theorem ErrAt.same {H H' : Hp} {e C : Addr} {v : V} (s : Same H H') (h : ErrAt H e C v) : ErrAt H' e C v := by
  obtain ⟨d, h1, h2⟩ := h
  exact ⟨d, s _ _ h1, s _ _ h2⟩
/-- what the written part says of such a class, its __init__ at fI -/
structure ErrC (K : PySem.W.Frag) (C fI : Addr) : Prop where
  oex : OexC K C
  iC : PySem.W.findIn K (.ref C) "__init__" = some (some (.ref fI))
  tI : PySem.W.typeIn K (.ref fI) = some (.type "function")
  no : PySem.W.findIn K (.ref C) "value" = some none
  ec : ExcC K C
/-- __init__(self, value): self.value = value -/
def spErr (K : PySem.W.Frag) : Sp := fun vs H Q _ => ∃ (a C : Addr) (v : V), vs = [.ref a, v] ∧ H a = some (exo a C none) ∧ OexC K C ∧ PySem.W.findIn K (.ref C) "value" = some none ∧
  ∀ dx, H dx = none → dx ≠ a → Q .non (upd (upd H dx (exd dx [(("value" : Str), v)])) a (exo a C (some dx)))
section
variable {X : Cx} {pins : List (Addr × Obj)} {σ : L2.St} {H : Hp} {s : Shared} {C fI : Addr} {fd : FuncData} {k : Nat}
theorem run_err {Q : VK} {us : List Value} {kw : List (Str × Value)} {v : V} {v' : Value} (T : ErrC X.K C fI) (F1 : FnOk X.prog X.w X.K X.mg X.base CX0 k fI fd ["self", "value"] (spErr X.K)) (hr : Room (k + 1) X.A) (I : Inv X pins σ H s) (rv : RelV v v') (hus : us.length ≤ sizeLine)
    (hb : ∀ (s : Shared) (self : Value), X.K.In s.heap → BindsTo s fd ⟨self :: us, kw⟩ ((["self", "value"] : List Str).zip [self, v']))
    (q : ∀ e H2, H e = none → Same H H2 → ErrAt H2 e C v → Q (.ref e) H2) :
    wpAny (model X.prog X.w) X.A (call (.ref C) us kw) (EP X pins σ Q) X.xe s := by
  obtain ⟨nm, qn, N, bs, bm, sn, sub, ab, col, dd, k0, k1, k2, k3, k5, hC, hbm⟩ := T.oex.cls
  obtain ⟨hp, g, dr, tk, os⟩ := s
  have hsz : hp.objs.size ≤ hp.objs.size + 1 := Nat.le_succ _
  have hn : H (hp.objs.size + 1) = none := I.hok.fresh hsz
  have kk : ∀ b o, hp.get? b = some o → ((hp.push (PySem.W.kdv_tup us)).push (PySem.HandSPX.excO C hp.objs.size)).get? b = some o := fun b o e => Heap.get?_push_of_some _ (Heap.get?_push_of_some _ e)
  have hget : ((hp.push (PySem.W.kdv_tup us)).push (PySem.HandSPX.excO C hp.objs.size)).get? (hp.objs.size + 1) = some (PySem.HandSPX.excO C hp.objs.size) := by heap_get
  have I2 : Inv X pins σ (upd H (hp.objs.size + 1) (exo (hp.objs.size + 1) C none)) ⟨(hp.push (PySem.W.kdv_tup us)).push (PySem.HandSPX.excO C hp.objs.size), g, dr, tk, os⟩ :=
    I.laid (t' := tk) (a := hp.objs.size + 1) (o := exo (hp.objs.size + 1) C none) (h' := (hp.push (PySem.W.kdv_tup us)).push (PySem.HandSPX.excO C hp.objs.size)) kk hsz (exo_ok hget)
  have r2 : Vals [V.ref (hp.objs.size + 1), v] [Value.ref (hp.objs.size + 1), v'] := .cons rfl (.cons rv .nil)
  have hq : spErr X.K [V.ref (hp.objs.size + 1), v] (upd H (hp.objs.size + 1) (exo (hp.objs.size + 1) C none))
      (fun u H2 => u = .non ∧ Q (.ref (hp.objs.size + 1)) H2) (fun _ _ _ => False) := by
    refine ⟨_, C, v, rfl, upd_same, T.oex, T.no, fun dx hd ne => ⟨rfl, ?_⟩⟩
    have hd' : H dx = none := by
      rw [upd_ne ne] at hd
      exact hd
    refine q _ _ hn (fun b o z => ?_) ⟨dx, upd_same, ?_⟩
    · rw [upd_ne (ne_of_none z hn), upd_ne (ne_of_none z hd'), upd_ne (ne_of_none z hn)]
      exact z
    · rw [upd_ne ne, upd_same]
  refine wpAny_call (PySem.YtE.call_ownK F.excBase_ValueError (fun Y => PySem.HandSPX.refsVE_contains Y bm hbm) (I.kIn _ _ hC) (PySem.W.looks_findIn I.kIn T.iC) (fun self => PySem.W.bind_fn I.kIn self T.tI) hus
    (codeAny_mono (F1.run _ X.stack _ _ ⟨Value.ref (hp.objs.size + 1) :: us, kw⟩ [Value.ref (hp.objs.size + 1), v'] _ _ (fun _ _ _ => False) (hr.make C us kw) (I2.env0.make C us kw) (hb _ _ I2.kIn) r2 hq) fun r s' hq' => ?_))
  cases r with
  | error er => exact pass0 (X := X) pins σ _ _ er s' I2 hq'
  | ok fl =>
    cases fl with
    | ret u =>
      obtain ⟨w, H', I3, rw', ew, q3⟩ := I2.after hq'
      subst ew
      exact ⟨rw', ⟨V.ref (hp.objs.size + 1), H', I3, rfl, q3⟩⟩
    | next => exact False.elim hq'
    | brk => exact False.elim hq'
    | cont => exact False.elim hq'
end
/-- C(e) as a value -/
def tErr (C : Addr) (te : TE) : TE := fun σ H Q => te σ H fun v H1 => ∀ e H2, H1 e = none → Same H1 H2 → ErrAt H2 e C v → Q (.ref e) H2
/-- C() -/
def tErr0 (C : Addr) : TE := fun _ H Q => ∀ e H2, H e = none → Same H H2 → ErrAt H2 e C .non → Q (.ref e) H2
section
variable {X : Cx} {C fI : Addr} {fd : FuncData} {k : Nat} {x : Str} {p pos kpos : Pos} {e : Expr} {te : TE} {ds : List Value}
/-- how the class's __init__ binds: given, by name, left out -/
structure ErrB (K : PySem.W.Frag) (fd : FuncData) : Prop where
  pos : ∀ (s : Shared) (self u : Value), K.In s.heap → BindsTo s fd ⟨[self, u], []⟩ ((["self", "value"] : List Str).zip [self, u])
  kwd : ∀ (s : Shared) (self u : Value), K.In s.heap → BindsTo s fd ⟨[self], [("value", u)]⟩ ((["self", "value"] : List Str).zip [self, u])
  out : ∀ (s : Shared) (self : Value), K.In s.heap → BindsTo s fd ⟨[self], []⟩ ((["self", "value"] : List Str).zip [self, .none])
theorem pe_err (T : ErrC X.K C fI) (F1 : FnOk X.prog X.w X.K X.mg X.base CX0 k fI fd ["self", "value"] (spErr X.K)) (hr : Room (k + 1) X.A) (hb : ErrB X.K fd) (hg : Gl X x) (hm : X.mg x = some (.ref C)) (he : PE X e te)
    (hs : starEach [e] X.env = (false, eval e X.env) :: starEach [] X.env := by rfl) (hdb : (x == ("__debug__" : Str)) = false := by decide) :
    PE X (.Call (.Name x p) [e] [] pos) (tErr C te) := by
  refine ⟨fun pins s σ H Q I h => ?_⟩
  refine wpAny_Call_Name_kw (ld_glob I hg hm ?_ hdb)
  refine PySem.W.callWith_K (h₀ := X.base) I.ok.mod.kin T.oex.kC ?_ hs (by rfl)
  rw [hs]
  show wpAny _ _ (spliced ((false, eval e X.env) :: backTo pos (starEach [] X.env))) _ _ s
  refine Calls.spliced_cons (thn (he.run pins s σ H _ I h) fun u s1 ⟨v, H1, I1, r1, q1⟩ => ?_)
  refine Calls.spliced_nil ⟨I1.kIn, ?_⟩
  show wpAny _ _ (call (.ref C) [u]) _ _ _
  exact run_err T F1 hr I1 r1 (by show 1 ≤ sizeLine; rw [sizeLine_eq]; omega) (fun s self X => hb.pos s self u X) q1
theorem pe_err0 (T : ErrC X.K C fI) (F1 : FnOk X.prog X.w X.K X.mg X.base CX0 k fI fd ["self", "value"] (spErr X.K)) (hr : Room (k + 1) X.A) (hb : ErrB X.K fd) (hg : Gl X x) (hm : X.mg x = some (.ref C))
    (hdb : (x == ("__debug__" : Str)) = false := by decide) : PE X (.Call (.Name x p) [] [] pos) (tErr0 C) := by
  refine ⟨fun pins s σ H Q I h => ?_⟩
  refine wpAny_Call_Name_kw (ld_glob I hg hm ?_ hdb)
  exact PySem.W.callWith_K0 I.kIn T.oex.kC (run_err (us := []) (v := .non) (v' := .none) T F1 hr I rfl (by show 0 ≤ sizeLine; omega) (fun s self X => hb.out s self X) h)
theorem pe_errK (T : ErrC X.K C fI) (F1 : FnOk X.prog X.w X.K X.mg X.base CX0 k fI fd ["self", "value"] (spErr X.K)) (hr : Room (k + 1) X.A) (hb : ErrB X.K fd) (hg : Gl X x) (hm : X.mg x = some (.ref C)) (he : PE X e te)
    (hdb : (x == ("__debug__" : Str)) = false := by decide) : PE X (.Call (.Name x p) [] [⟨some "value", e, kpos⟩] pos) (tErr C te) := by
  refine ⟨fun pins s σ H Q I h => ?_⟩
  refine wpAny_Call_Name_kw (ld_glob I hg hm ?_ hdb)
  refine PySem.W.callWith_KW0 (h₀ := X.base) I.ok.mod.kin T.oex.kC (by rfl) ?_ (by rfl)
  show wpAny _ _ (evalAll ((do let v ← eval e X.env; standAt pos; pure v) :: [])) _ _ s
  refine wpAny_evalAll_cons (wpAny_bind (thn (he.run pins s σ H _ I h) fun u s1 ⟨v, H1, I1, r1, q1⟩ => wpAny_bind (wpAny_standAt (wpAny_pure ?_))))
  refine wpAny_evalAll_nil ⟨I1.kIn, ?_⟩
  show wpAny _ _ (call (.ref C) [] [("value", u)]) _ _ _
  exact run_err T F1 hr I1 r1 (by show 0 ≤ sizeLine; omega) (fun s self X => hb.kwd s self u X) q1
end
/-- e.value -/
def tVal (K : PySem.W.Frag) (te : TE) : TE := fun σ H Q => te σ H fun x H1 => ∃ (a C fI : Addr) (v : V), x = .ref a ∧ ErrC K C fI ∧ ErrAt H1 a C v ∧ Q v H1
theorem pe_val {X : Cx} {e : Expr} {te : TE} {pos : Pos} (he : PE X e te) (hb : attributeBase e "value" X.env (eval e X.env) = eval e X.env := by rfl) : PE X (.Attribute e "value" pos) (tVal X.K te) := by
  refine ⟨fun pins s σ H Q I h => ?_⟩
  refine attr_of hb (thn (he.run pins s σ H _ I h) fun u s1 hh => ?_)
  obtain ⟨x, H1, I1, rx, a, C, fI, v, ex, T, ⟨dd, ea, ed⟩, q⟩ := hh
  subst ex
  obtain rfl : u = Value.ref a := rx
  obtain ⟨t1, ha⟩ := exo_at I1.hok ea
  obtain ⟨mA, hns, hr⟩ := exd_at I1.hok ed
  obtain ⟨od, ho, hl⟩ := lookIn_ns hns
  obtain ⟨u, hu, ru⟩ := RelO.some_of (v := v) (o := mA "value") (by
    have z := hr "value"
    have e : List.lookup ("value" : Str) [(("value" : Str), v)] = some v := by simp [List.lookup]
    rw [e] at z
    exact z)
  have J : PySem.W.InstAt s1.heap a _ C (some od) := ⟨ha, rfl, rfl, ho⟩
  exact HandSPX.exc_get I1.kIn J T.ec.hg T.ec.hk T.ec.hs (PySem.W.findObj_own T.ec.hd T.no rfl (by rw [hl, hu])) (handed_of ru) ⟨v, H1, I1.tok _, ru, q⟩
end Yt

set_option Elab.async false
set_option linter.all false
set_option maxRecDepth 100000
set_option maxHeartbeats 4000000
namespace PySem.YtE
open PySem PySem.Spec PySem.Calls PyProof.Rows PySem.W
section
variable {prog : Program} {w : World} {A : Around} {E : Value → Shared → Prop} {s : Shared} {K : Frag} {x D : Addr} {ox : Obj} {od : Option Obj}
theorem findData {C : Addr} {name : Str} {a g : Value} (hc : (clsIn K C).isSome = true) (ha : findIn K (.ref C) name = some (some a)) (hg : specialIn K a "__get__" = some (some g)) (ht : takesIn K a = some true) : findObj K C od name = some (.bind g a) := by
  obtain ⟨cd, hc⟩ := Option.isSome_iff_exists.mp hc
  unfold findObj
  rw [hc, Option.bind_some, ha, Option.bind_some]
  simp [hg, ht]
theorem class_of {Q : Option Value → Shared → Prop} (T : L2.ExcC K D) (X : K.In s.heap) (I : InstAt s.heap x ox D od) (h : Q (some (.ref D)) { s with toks := s.toks + 1 }) : wpAny (model prog w) A (getAttr? (.ref x) "__class__") Q E s := by
  have hf : findObj K D od "__class__" = some (.bind (.builtin "getset_descriptor.__get__") (.builtin "object.__class__")) := findData (by obtain ⟨cd, hc, _⟩ := any_some T.hd; rw [hc]; rfl) T.ha T.hn T.ht
  obtain ⟨hp, g, d, t, os⟩ := s
  have L0 := I.type (M := model prog w)
  have L1 := looks_findIn (M := model prog w) X T.hg
  have L2 := looks_findIn (M := model prog w) X T.hk
  have L3 := looks_find (M := model prog w) X I hf
  have sub : Looks (model prog w) hp (isInstance (.ref x) (.type "BaseException")) true := L0.andThen (looks_subIn X T.hs)
  have hx0 : (false && onTheHeap (Value.builtin "BaseException.__getattribute__")) = false := rfl
  have hx2 : (Value.builtin "BaseException.__getattribute__" == Value.builtin "object.__getattribute__") = false := by decide +kernel
  have hx1 : (onTheHeap (Value.ref D) && Value.builtin "BaseException.__getattribute__" == Value.builtin "object.__getattribute__") = false := by rw [hx2]; rfl
  unfold getAttr? getAttrBy? getAttrBy
  refine wpAny_bind (wpAny_mkText (wpAny_bind (wpAny_attempt (wpAny_holding (wpAny_bind (L0.at (wpAny_bind (L1.at ?_))))))))
  show wpAny _ _ (if (onTheHeap (Value.ref D) && Value.builtin "BaseException.__getattribute__" == Value.builtin "object.__getattribute__") = true then _ else _) _ _ _
  rw [hx1, if_neg Bool.false_ne_true]
  unfold getAttrByItsOwn hookBefore
  refine wpAny_bind ?_
  rw [if_pos (show onTheHeap (Value.ref D) = true from rfl)]
  refine L2.at ?_
  refine wpAny_bind (wpAny_attempt (wpAny_holding ?_))
  unfold callGetattribute
  rw [hx0, if_neg Bool.false_ne_true]
  unfold boundAndCalled
  rw [PySem.F.excAttr_ValueError.ga.bind (.ref x)]
  refine wpAny_bind (wpAny_pure ?_)
  show wpAny _ _ (call (.builtin "BaseException.__getattribute__") [.ref x, .str "__class__" t]) _ _ _
  refine wpAny_call (codeAny_call_builtin PySem.F.excAttr_ValueError.ga.plain PySem.F.entry_bexc_ga ?_)
  refine @check_slot (model prog w) _ _ ⟨hp, g, d, t + 1, os⟩ "BaseException.__getattribute__" "BaseException" "__getattribute__" (.ref x) [.str "__class__" t] [] _ (by decide +kernel) (by decide +kernel) sub (PySem.F.args_bexc_ga (.ref x) (.str "__class__" t)) ?_
  unfold Builtin.«object.__getattribute__»
  refine wpAny_bind (wpAny_of_eq (a := ((Value.ref x : Value), [Value.str "__class__" t])) (by first | rfl | (simp only [slotArgs]; rfl)) ?_)
  refine wpAny_bind (wpAny_pure (wpAny_bind (L0.at (wpAny_bind (L3.at ?_)))))
  show wpAny _ _ (holding [Value.builtin "object.__class__"] (call (.builtin "getset_descriptor.__get__") [.builtin "object.__class__", .ref x, .ref D]) >>= ret) _ _ _
  refine wpAny_bind (wpAny_holding (wpAny_call (class_get (s := ⟨hp, g, d, t + 1, os⟩) (ox := ox) (od := od) X I T.hm ?_)))
  refine wpAny_pure ?_
  show wpAny _ _ (handedOut (.ref D)) _ _ _
  rw [handedOut_of (v := .ref D) rfl]
  first
    | exact wpAny_pure (wpAny_pure h)
    | exact wpAny_pure h
    | exact wpAny_pure (wpAny_bind (wpAny_pure (wpAny_pure h)))
theorem kit_err (T : L2.ExcC K D) : KitX K (.ref x) (.ref D) (fun h => ∃ ox od, InstAt h x ox D od) where
  ty := fun _ _ _ ⟨_, _, I⟩ => I.type
  it := fun _ _ X _ => by
    obtain ⟨cdD, hcD, _⟩ := any_some T.hd
    unfold clsIn at hcD
    split at hcD
    · rename_i c' d' cd' sl' ho
      intro A' Q' E' s' k q
      unfold isType loadHead
      exact wpAny_bind (wpAny_loadPart (k _ _ (X _ _ ho)) (wpAny_pure q))
    · cases hcD
  ne := fun h tp dd its n sl X htp => by
    obtain ⟨cdD, hcD, _⟩ := any_some T.hd
    refine Bool.eq_false_iff.mpr fun q => ?_
    have e : D = tp := Value.ref.inj (beq_iff_eq.mp q)
    subst e
    unfold clsIn at hcD
    split at hcD
    · rename_i c' d' cd' sl' ho
      have z := (X _ _ ho).symm.trans htp
      cases z
    · cases hcD
  ca := fun X ⟨_, _, I⟩ k => class_of T X I k
end
end PySem.YtE
namespace Yt
open PySem PySem.Spec PyProof.Rows L2
/-- at a an instance of the error class at C: with its field or without one -/
def ErrIs (H : Hp) (a C : Addr) : Prop := (∃ v, ErrAt H a C v) ∨ H a = some (exo a C none)
theorem ErrAt.is {H : Hp} {a C : Addr} {v : V} (h : ErrAt H a C v) : ErrIs H a C := .inl ⟨v, h⟩
theorem ErrIs.inst {X : Cx} {pins : List (Addr × Obj)} {σ : L2.St} {H : Hp} {s : Shared} {a C : Addr} (I : Inv X pins σ H s) (h : ErrIs H a C) : ∃ ox od, PySem.W.InstAt s.heap a ox C od := by
  rcases h with ⟨v, dd, ea, ed⟩ | ea
  · obtain ⟨t1, ha⟩ := exo_at I.hok ea
    obtain ⟨mA, hns, hr⟩ := exd_at I.hok ed
    obtain ⟨od, ho, hl⟩ := lookIn_ns hns
    exact ⟨_, some od, ha, rfl, rfl, ho⟩
  · obtain ⟨t1, ha⟩ := exo_at I.hok ea
    exact ⟨_, none, ha, rfl, rfl, trivial⟩
/-- isinstance(e, c), e an error of an own class -/
def rIsI (K : PySem.W.Frag) : List V → Hp → VK → Prop := fun xs H Q => ∃ (a D : Addr) (c : V) (cv : Value) (b : Bool), xs = [.ref a, c] ∧ ErrIs H a D ∧ ExcC K D ∧ (∀ u, RelV c u → u = cv) ∧ PySem.W.kitOne K (.ref D) cv = some b ∧ Q (.bl b) H
theorem call_isErr {X : Cx} : CallR X (.builtin "isinstance") (rIsI X.K) := by
  intro pins s σ H xs us Q I r h
  obtain ⟨a, D, c, cv, b, rfl, hE, C, hcv, e, q⟩ := h
  obtain ⟨u, w, rfl, ru, rw'⟩ := vals2 r
  obtain rfl : u = Value.ref a := ru
  have ec := hcv _ rw'
  subst ec
  exact PySem.W.kia_one (PySem.YtE.kit_err C) I.kIn (hE.inst I) e (fun z => nomatch z) fun tk => ⟨.bl b, H, I.kept (t' := tk) fun _ _ z => z, rfl, q⟩
end Yt

set_option Elab.async false
set_option linter.all false
set_option maxRecDepth 100000
set_option maxHeartbeats 2000000
namespace Yt
open PySem PySem.Spec PyProof.Rows L2
def top (i : Nat) : Stmt := PySem.Challenge.pw_pairtells_k08_whole_tables_kept_and_clos.main.body.getD i (.Pass ⟨0, 0, 0, 0⟩)
abbrev sPurse : Stmt := top 38
abbrev sMixed : Stmt := top 39
abbrev sDraw : Stmt := top 40
abbrev sPurses : Stmt := top 41
abbrev sOne : Stmt := top 42
abbrev sWord : Stmt := top 46
abbrev FnP (K : PySem.W.Frag) (x : Str) (st : Stmt) (f : Addr) (fd : FuncData) : Prop := FunD K x x (defArgs st) (defBody st) (defScope st) [] [] f fd
/-- the names that the module leaves to Python -/
structure Nm (mg : Str → Option Value) : Prop where
  int : mg "int" = none
  sum : mg "sum" = none
  max : mg "max" = none
  min : mg "min" = none
  range : mg "range" = none
  len : mg "len" = none
/-- the law's purse at p: it may be drawn from f times more -/
def PurseAt (H : Hp) (p : Addr) (f : Nat) : Prop := ∃ x y c t : Int, H p = some (.lst [.int x, .int y, .int c, .int t]) ∧ 0 ≤ x ∧ (0 ≤ y ∧ y < 2147483648) ∧ (0 ≤ c ∧ c + f ≤ 1099511627776) ∧ (0 ≤ t ∧ t ≤ 63)
theorem PurseAt.less {H : Hp} {p : Addr} {f g : Nat} (h : PurseAt H p f) (l : g ≤ f) : PurseAt H p g := by
  obtain ⟨x, y, c, t, e, h1, h2, h3, h4⟩ := h
  exact ⟨x, y, c, t, e, h1, h2, ⟨h3.1, by omega⟩, h4⟩
def spMixed : Sp := fun vs H Q _ => ∃ y c t : Int, vs = [.int y, .int c, .int t] ∧ (0 ≤ y ∧ y < 2147483648) ∧ (0 ≤ c ∧ c ≤ 1099511627776) ∧ (0 ≤ t ∧ t ≤ 63) ∧ ∀ r : Int, 0 ≤ r → r < 2147483587 → Q (.int r) H
section
variable {P : Program} {w : World} {K : PySem.W.Frag} {mg : Str → Option Value} {base : Heap} {f fM : Addr} {fd fdM : FuncData}
theorem scMixed : FnScope ["_law_seed", "_law_spin", "_law_at", "_law_mixed_here"] ["_law_seed", "_law_spin", "_law_at"] (defScope sMixed) := ⟨rfl, rfl, rfl, by decide +kernel, rfl, by decide +kernel, by decide +kernel⟩
theorem ok_mixed (F : FnP K "_law_mixed" sMixed f fd) (T : Nm mg) : FnOk P w K mg base CX0 1 f fd ["_law_seed", "_law_spin", "_law_at"] spMixed := by
  refine F.ok scMixed (fun vs H Q E h => ?_) (fun cdv A outer s H vs Q E hr h => ?_)
  · obtain ⟨y, c, t, rfl, _⟩ := h
    rfl
  · obtain ⟨y, c, t, rfl, hy, hc, ht, k⟩ := h
    refine ⟨_, PSs.nox (pss_cons (ps_set (i := 3) scMixed.nd rfl (Or.inl rfl) (pe_op op_add (pe_op op_mul (pv 0) pe_int) (pe_op op_mul (pe_op op_mul pe_int (pv 1)) (pv 1))))
      (pss_cons (ps_set (i := 3) scMixed.nd rfl (Or.inl rfl) (pe_op op_mod (pe_callTy call_int1 (by rfl) T.int (by decide +kernel) (pa_cons (pe_op op_add (pe_op op_add (pv 3) (pe_op op_mul pe_int (pv 2))) (pv 1)) pa_nil)) pe_int))
      (pss_cons (ps_set (i := 3) scMixed.nd rfl (Or.inl rfl) (pe_op op_mod (pe_callTy call_int1 (by rfl) T.int (by decide +kernel) (pa_cons (pe_op op_add (pe_op op_mul (pv 3) (pv 3)) pe_int) pa_nil)) pe_int))
      (pss_one (ps_ret (pe_op op_mod (pe_callTy call_int1 (by rfl) T.int (by decide +kernel) (pa_cons (pe_op op_mul (pv 3) pe_int) pa_nil)) pe_int)))))), ?_⟩
    refine ⟨_, rfl, _, _, rfl, rfl, .inl ⟨by omega, by omega⟩, _, rfl, _, _, rfl, rfl, .inr ⟨by omega, by omega⟩, _, rfl, _, _, rfl, rfl, .inr ⟨by omega, by omega⟩, _, _, rfl, rfl, ?_⟩
    refine ⟨_, rfl, _, rfl, _, _, rfl, rfl, .inl ⟨by omega, by omega⟩, _, _, rfl, rfl, _, rfl, _, _, rfl, rfl, .inl ⟨_, rfl, _, _, rfl, rfl, (show (0 : Int) < 2147483647 by decide), ?_⟩⟩
    refine ⟨_, rfl, _, rfl, _, _, rfl, rfl, .inl ⟨by omega, by omega⟩, _, _, rfl, rfl, .inl ⟨_, rfl, _, _, rfl, rfl, (show (0 : Int) < 2147483629 by decide), ?_⟩⟩
    refine ⟨_, rfl, _, _, rfl, rfl, .inl ⟨by omega, by omega⟩, .inl ⟨_, rfl, _, _, rfl, rfl, (show (0 : Int) < 2147483587 by decide), ?_⟩⟩
    exact k _ (Int.emod_nonneg _ (by decide)) (Int.emod_lt_of_pos _ (by decide))

/-- all but what stands at p is as it was -/
def But (p : Addr) (H H' : Hp) : Prop := ∀ b o, b ≠ p → H b = some o → H' b = some o
theorem But.trans {p : Addr} {H H1 H2 : Hp} (a : But p H H1) (b : But p H1 H2) : But p H H2 := fun c o n h => b c o n (a c o n h)
theorem But.refl (p : Addr) (H : Hp) : But p H H := fun _ _ _ h => h
theorem Same.but {p : Addr} {H H1 : Hp} (a : Same H H1) : But p H H1 := fun c o _ h => a c o h
def spDraw : Sp := fun vs H Q _ => ∃ (p : Addr) (f : Nat) (m : Int), vs = [.ref p, .int m] ∧ PurseAt H p (f + 1) ∧ (1 ≤ m ∧ m ≤ 1000000) ∧ ∀ (r : Int) (H' : Hp), 0 ≤ r → r < m → PurseAt H' p f → But p H H' → Q (.int r) H'
theorem bits_small {m : Int} (h0 : 1 ≤ m) (h1 : m ≤ 1000000) : ((Builtin.Int.intBits m : Nat) : Int) / 28 = 0 := by
  have b : Builtin.Int.intBits m ≤ m.natAbs.log2 + 1 := by
    unfold Builtin.Int.intBits
    split <;> omega
  have h2 : m.natAbs.log2 < 20 := (Nat.log2_lt (by omega)).mpr (by omega)
  omega
theorem scDraw : FnScope ["_law_purse_here", "_law_many", "_law_drawn", "_law_found", "_law_piece"] ["_law_purse_here", "_law_many"] (defScope sDraw) := ⟨rfl, rfl, rfl, by decide +kernel, rfl, by decide +kernel, by decide +kernel⟩
theorem ok_draw (F : FnP K "_law_draw" sDraw f fd) (T : Nm mg) (FM : FnP K "_law_mixed" sMixed fM fdM) (gM : mg "_law_mixed" = some (.ref fM)) : FnOk P w K mg base CX0 2 f fd ["_law_purse_here", "_law_many"] spDraw := by
  have GM : FnOk P w K mg base CX0 1 fM fdM ["_law_seed", "_law_spin", "_law_at"] spMixed := ok_mixed FM T
  have bM : Binds K fdM ["_law_seed", "_law_spin", "_law_at"] [] := FM.bindsN fun _ _ _ _ _ _ us hl => match us, hl with | [_, _, _], _ => rfl
  refine F.ok scDraw (fun vs H Q E h => ?_) (fun cdv A outer s H vs Q E hr h => ?_)
  · obtain ⟨p, g, m, rfl, _⟩ := h
    rfl
  · obtain ⟨p, g, m, rfl, ⟨x, y, c, t, hp, hx, hy, hc, ht⟩, hm, k⟩ := h
    refine ⟨_, PSs.nox (pss_cons (ps_if (pt_cmpR op_gt (pe_ix ix_list (pv 0) pe_int (fun _ _ => rfl)) pe_int (nomark _))
        (pss_cons (ps_set (i := 2) scDraw.nd rfl (Or.inl rfl) (pe_op op_mod (pe_callTy call_int1 (by rfl) T.int (by decide +kernel) (pa_cons (pe_ix ix_list (pv 0) pe_int (fun _ _ => rfl)) pa_nil)) (pv 1)))
        (pss_cons (ps_asg (pe_op op_fdiv (pe_ix ix_list (pv 0) pe_int (fun _ _ => rfl)) (pv 1)) (pg_sub (pv 0) pe_int set_list))
        (pss_one (ps_ret (pv 2))))) pss_nil)
      (pss_cons (ps_set (i := 3) scDraw.nd rfl (Or.inl rfl) pe_int)
      (pss_cons (ps_for PassesOwn.never rfl (pi_range1 rfl T.range (pa_cons (pe_op op_add pe_int (pe_op op_fdiv (pe_bits (pv 1)) pe_int)) pa_nil)) (pg_name (i := 4) scDraw.nd rfl (Or.inl rfl))
        (pss_cons (ps_asg (pe_op op_add (pe_ix ix_list (pv 0) pe_int (fun _ _ => rfl)) pe_int) (pg_sub (pv 0) pe_int set_list))
        (pss_one (ps_set (i := 3) scDraw.nd rfl (Or.inl rfl) (pe_op op_add (pe_op op_mul (pv 3) pe_int) (pe_call GM hr rfl gM FM.kp bM .nil pass0 (pa_cons (pe_ix ix_list (pv 0) pe_int (fun _ _ => rfl)) (pa_cons (pe_ix ix_list (pv 0) pe_int (fun _ _ => rfl)) (pa_cons (pe_ix ix_list (pv 0) pe_int (fun _ _ => rfl)) pa_nil)))))))))
      (pss_one (ps_ret (pe_op op_mod (pe_callTy call_int1 (by rfl) T.int (by decide +kernel) (pa_cons (pv 3) pa_nil)) (pv 1))))))), ?_⟩
    refine ⟨_, rfl, p, _, _, _, rfl, rfl, SqL.of hp, atI_nat (j := 0) rfl, _, _, rfl, rfl, _, rfl, ?_⟩
    refine ite2 (fun hd => ?_) (fun hd => ?_)
    · refine ⟨_, rfl, p, _, _, _, rfl, rfl, SqL.of hp, atI_nat (j := 0) rfl, .inl ⟨_, rfl, _, rfl, _, _, rfl, rfl, (show (0 : Int) < m by omega), ?_⟩⟩
      refine ⟨_, rfl, p, _, _, _, rfl, rfl, SqL.of hp, atI_nat (j := 0) rfl, _, rfl, _, _, rfl, rfl, ⟨by omega, by omega⟩, _, rfl, p, _, _, 0, rfl, rfl, hp, rfl, ?_⟩
      refine ⟨_, rfl, ?_⟩
      refine k _ _ (Int.emod_nonneg _ (by omega)) (Int.emod_lt_of_pos _ (by omega)) ⟨x / m, y, c, t, upd_same, Int.ediv_nonneg hx (by omega), hy, ⟨hc.1, by omega⟩, ht⟩ fun b o n z => ?_
      rw [upd_ne n]
      exact z
    · refine ⟨_, rfl, _, rfl, _, _, rfl, rfl, (show (0 : Int) < 28 ∧ (28 : Int) < 1073741824 by decide), _, _, rfl, rfl, ?_⟩
      rw [bits_small hm.1 hm.2]
      refine ⟨_, rfl, by decide, by decide, for_range (lo := 0) (n := 1) (fun i σ H2 => ∃ (r : Int) (v : Option V), σ = [some (.ref p), some (.int m), none, some (.int r), v] ∧ 0 ≤ r ∧ (i = 0 → H2 = H) ∧ (i = 1 → PurseAt H2 p g ∧ But p H H2))
        ⟨0, none, rfl, by decide, fun _ => rfl, fun z => by cases z⟩ ?_ ?_⟩
      · rintro i σ H2 hi ⟨r, v, rfl, hr0, h0, _⟩
        obtain rfl : i = 0 := by omega
        obtain rfl := h0 rfl
        refine ⟨_, rfl, p, _, _, _, rfl, rfl, SqL.of hp, atI_nat (j := 2) rfl, _, _, rfl, rfl, _, rfl, p, _, _, 2, rfl, rfl, hp, rfl, ?_⟩
        refine ⟨_, rfl, _, _, rfl, rfl, .inr ⟨by decide, by decide⟩, _, rfl, p, _, _, _, rfl, rfl, SqL.of upd_same, atI_nat (j := 1) rfl, _, rfl, p, _, _, _, rfl, rfl, SqL.of upd_same, atI_nat (j := 2) rfl, _, rfl, p, _, _, _, rfl, rfl, SqL.of upd_same, atI_nat (j := 3) rfl, ?_⟩
        refine ⟨y, c + 1, t, rfl, hy, ⟨by omega, by omega⟩, ht, fun q q0 q1 => ?_⟩
        refine ⟨_, _, rfl, rfl, r * 2147483587 + q, _, rfl, by omega, (fun z => by cases z), fun _ => ⟨⟨x, y, c + 1, t, upd_same, hx, hy, ⟨by omega, by omega⟩, ht⟩, fun b o n z => ?_⟩⟩
        rw [upd_ne n]
        exact z
      · rintro σ H2 ⟨r, v, rfl, hr0, _, h1⟩
        obtain ⟨hP, hB⟩ := h1 rfl
        refine ⟨_, rfl, .inl ⟨_, rfl, _, rfl, _, _, rfl, rfl, (show (0 : Int) < m by omega), ?_⟩⟩
        exact k _ _ (Int.emod_nonneg _ (by omega)) (Int.emod_lt_of_pos _ (by omega)) hP hB

def FUEL : Nat := 1000000000000
def spPurse (K : PySem.W.Frag) : Sp := fun vs H Q _ => ∃ (a : Addr) (ns : List Int) (t : Int), vs = [.ref a, .int t] ∧ SqL K H a (ns.map V.int) ∧ (0 ≤ t ∧ t ≤ 63) ∧ ∀ (p : Addr) (H' : Hp), H p = none → Same H H' → PurseAt H' p FUEL → Q (.ref p) H'
theorem cut_ints (ns : List Int) (lo hi : Option Int) : ∃ ms : List Int, cutV (ns.map V.int) lo hi = ms.map V.int := by
  unfold cutV
  rw [← List.map_drop, ← List.map_take]
  exact ⟨_, rfl⟩
theorem scPurse : FnScope ["_law_script", "_law_at", "_law_seed"] ["_law_script", "_law_at"] (defScope sPurse) := ⟨rfl, rfl, rfl, by decide +kernel, rfl, by decide +kernel, by decide +kernel⟩
theorem big_pos : (0 : Int) < ((10 : Int) ^ (60 : Int).toNat) ^ (8 : Int).toNat := Int.pow_pos (Int.pow_pos (by decide))
theorem pow_ok : CPowW ((10 : Int) ^ (60 : Int).toNat) 8 := ⟨by decide, by decide +kernel⟩
theorem ok_purse (F : FnP K "_law_purse" sPurse f fd) (T : Nm mg) : FnOk P w K mg base CX0 1 f fd ["_law_script", "_law_at"] (spPurse K) := by
  refine F.ok scPurse (fun vs H Q E h => ?_) (fun cdv A outer s H vs Q E hr h => ?_)
  · obtain ⟨a, ns, t, rfl, _⟩ := h
    rfl
  · obtain ⟨a, ns, t, rfl, hS, ht, k⟩ := h
    refine ⟨_, PSs.nox (pss_cons (ps_set (i := 2) scPurse.nd rfl (Or.inl rfl) (pe_callB (cr_sum rfl) (by rfl) T.sum (by decide +kernel) (pa_cons (pe_slice sl_list (pv 0) (po_some (pv 1)) (po_some (pe_op op_add (pv 1) pe_int))) pa_nil)))
      (pss_one (ps_ret (pe_lst (pa_cons (pe_op op_mod (pe_callTy call_int1 (by rfl) T.int (by decide +kernel) (pa_cons (pe_callB (call_max2 rfl) (by rfl) T.max (by decide +kernel) (pa_cons (pe_op op_sub (pv 2) (pe_op op_pow pe_int pe_int)) (pa_cons pe_int pa_nil))) pa_nil)) (pe_op op_powW (pe_op op_pow pe_int pe_int) pe_int))
        (pa_cons (pe_op op_mod (pe_callTy call_int1 (by rfl) T.int (by decide +kernel) (pa_cons (pv 2) pa_nil)) pe_int) (pa_cons pe_int (pa_cons (pv 1) pa_nil)))))))), ?_⟩
    obtain ⟨ms, hms⟩ := cut_ints ns (some t) (some (t + 1))
    refine ⟨_, rfl, _, rfl, _, rfl, _, rfl, _, _, rfl, rfl, _, rfl, a, _, rfl, hS, fun p np => ?_⟩
    refine ⟨p, ms, rfl, SqL.of (by rw [upd_same, hms]), ?_⟩
    refine ⟨_, rfl, _, _, rfl, rfl, ⟨by decide, by decide, by decide⟩, _, _, rfl, rfl, _, _, rfl, .inl ⟨_, rfl, _, _, rfl, rfl, ⟨by decide, by decide, by decide⟩, _, _, rfl, rfl, pow_ok, _, _, rfl, rfl, big_pos, ?_⟩⟩
    refine ⟨_, rfl, .inl ⟨_, rfl, _, _, rfl, rfl, (show (0 : Int) < 2147483629 by decide), _, rfl, (by show 4 ≤ sizeLine; decide), fun q nq => ?_⟩⟩
    have hq : H q = none := by
      by_cases e : q = p
      · rw [e]
        exact np
      · rw [upd_ne e] at nq
        exact nq
    refine k q _ hq (fun b o z => ?_) ⟨_, _, 0, t, upd_same, Int.emod_nonneg _ (Int.ne_of_gt big_pos), ⟨Int.emod_nonneg _ (by decide), Int.lt_trans (Int.emod_lt_of_pos _ (by decide)) (by decide)⟩, ⟨by decide, by decide⟩, ht⟩
    rw [upd_ne (ne_of_none z hq), upd_ne (ne_of_none z np)]
    exact z
def spOne (K : PySem.W.Frag) : Sp := fun vs H Q _ => ∃ (p a : Addr) (f : Nat) (xs : List V), vs = [.ref p, .ref a] ∧ PurseAt H p (f + 1) ∧ SqL K H a xs ∧ a ≠ p ∧ (0 < xs.length ∧ xs.length ≤ 1000000) ∧ ∀ (i : Nat) (x : V) (H' : Hp), xs[i]? = some x → PurseAt H' p f → But p H H' → Q x H'

theorem But.seq {K : PySem.W.Frag} {p a : Addr} {H H' : Hp} {xs : List V} (b : But p H H') (n : a ≠ p) (h : SqL K H a xs) : SqL K H' a xs := by
  rcases h with (h | ⟨o, h⟩) | h
  · exact .inl (.inl (b _ _ n h))
  · exact .inl (.inr ⟨o, b _ _ n h⟩)
  · exact .inr h
theorem atI_in {α : Type} (xs : List α) {r : Int} (h0 : 0 ≤ r) (h1 : r < xs.length) : ∃ (i : Nat) (x : α), xs[i]? = some x ∧ atI xs r = some x := by
  have hi : r.toNat < xs.length := by omega
  refine ⟨r.toNat, xs[r.toNat], List.getElem?_eq_getElem hi, ?_⟩
  have e : r = (r.toNat : Int) := (Int.toNat_of_nonneg h0).symm
  have z := atI_nat (List.getElem?_eq_getElem hi)
  rw [← e] at z
  exact z
theorem scOne : FnScope ["_law_purse_here", "_law_some"] ["_law_purse_here", "_law_some"] (defScope sOne) := ⟨rfl, rfl, rfl, by decide +kernel, rfl, by decide +kernel, by decide +kernel⟩
theorem ok_one {fD : Addr} {fdD : FuncData} (F : FnP K "_law_one_of" sOne f fd) (T : Nm mg) (GD : FnOk P w K mg base CX0 2 fD fdD ["_law_purse_here", "_law_many"] spDraw) (bD : Binds K fdD ["_law_purse_here", "_law_many"] []) (kD : PySem.W.keepIn K (.ref fD) = true) (gD : mg "_law_draw" = some (.ref fD)) :
    FnOk P w K mg base CX0 3 f fd ["_law_purse_here", "_law_some"] (spOne K) := by
  refine F.ok scOne (fun vs H Q E h => ?_) (fun cdv A outer s H vs Q E hr h => ?_)
  · obtain ⟨p, a, g, xs, rfl, _⟩ := h
    rfl
  · obtain ⟨p, a, g, xs, rfl, hP, hS, ne, hl, k⟩ := h
    refine ⟨_, PSs.nox (pss_one (ps_ret (pe_ix ix_list (pv 1) (pe_call GD hr rfl gD kD bD .nil pass0 (pa_cons (pv 0) (pa_cons (pe_callB call_len (by rfl) T.len PySem.boot_len (pa_cons (pv 1) pa_nil)) pa_nil))) (fun _ _ => rfl)))), ?_⟩
    refine ⟨_, rfl, _, rfl, _, rfl, _, xs.length, rfl, Or.inl ⟨_, hS, rfl⟩, p, g, (xs.length : Int), rfl, hP, ⟨by omega, by omega⟩, fun r H' r0 r1 hP' hB => ?_⟩
    obtain ⟨i, x, hi, hx⟩ := atI_in xs r0 r1
    exact ⟨a, xs, r, x, rfl, rfl, hB.seq ne hS, hx, k i x H' hi hP' hB⟩
/-- a word of the language -/
def WordOk (z : Str) : Prop := (1 ≤ z.length ∧ z.length ≤ 8) ∧ ∀ c ∈ z.cps.toList, 97 ≤ c ∧ c ≤ 122
def spWord : Sp := fun vs H Q _ => ∃ (p : Addr) (f : Nat), vs = [.ref p] ∧ PurseAt H p (f + 10) ∧ ∀ (z : Str) (H' : Hp), WordOk z → PurseAt H' p f → But p H H' → Q (.str z) H'
theorem joinL_nil : ∀ l : List (List Nat), TL.joinL [] l = l.flatten
  | [] => rfl
  | [p] => by simp [TL.joinL]
  | p :: q :: r => by
    show p ++ ([] ++ TL.joinL [] (q :: r)) = _
    rw [joinL_nil (q :: r)]
    simp
def abc : Str := "abcdefghijklmnopqrstuvwxyz"
theorem abc_at {r : Int} (h0 : 0 ≤ r) (h1 : r < 26) : ∃ c : Nat, atI abc.cps.toList r = some c ∧ (97 ≤ c ∧ c ≤ 122) := by
  obtain ⟨i, x, hi, hx⟩ := atI_in abc.cps.toList h0 (by show r < (26 : Nat); omega)
  refine ⟨x, hx, ?_⟩
  have hall : ∀ c ∈ abc.cps.toList, 97 ≤ c ∧ c ≤ 122 := by decide +kernel
  exact hall x (List.mem_of_getElem? hi)
/-- one sign each -/
def Signs (ys : List Str) : Prop := ∀ y ∈ ys, ∃ c : Nat, y = ⟨#[c]⟩ ∧ (97 ≤ c ∧ c ≤ 122)
theorem signs_flat : ∀ {ys : List Str}, Signs ys → ((ys.map TL.tl).flatten.length = ys.length ∧ ∀ c ∈ (ys.map TL.tl).flatten, 97 ≤ c ∧ c ≤ 122)
  | [], _ => ⟨rfl, fun c z => nomatch z⟩
  | y :: r, h => by
    obtain ⟨i1, i2⟩ := signs_flat (ys := r) fun z hz => h z (List.mem_cons_of_mem _ hz)
    obtain ⟨c, rfl, hc⟩ := h y (List.mem_cons_self ..)
    refine ⟨?_, fun d hd => ?_⟩
    · show ([c] ++ (r.map TL.tl).flatten).length = _
      rw [List.length_append, i1]
      show 1 + r.length = r.length + 1
      omega
    · have hd2 : d ∈ [c] ++ (r.map TL.tl).flatten := hd
      rcases List.mem_append.mp hd2 with z | z
      · rw [List.mem_singleton.mp z]
        exact hc
      · exact i2 d z
theorem word_of {ys : List Str} (h : Signs ys) (h1 : 1 ≤ ys.length) (h8 : ys.length ≤ 8) : WordOk (Txt.join "" ys) := by
  obtain ⟨i1, i2⟩ := signs_flat h
  have e : (Txt.join "" ys).cps.toList = (ys.map TL.tl).flatten := by
    rw [TL.join_eq]
    show TL.tl (Str.join "" ys) = _
    rw [TL.tl_join]
    exact joinL_nil _
  have el : (Txt.join "" ys).length = ys.length := by
    show (Txt.join "" ys).cps.size = _
    rw [← Array.length_toList, e, i1]
  exact ⟨⟨by omega, by omega⟩, fun c hc => i2 c (by rw [← e]; exact hc)⟩
theorem signs_len : ∀ {ys : List Str}, Signs ys → (ys.map (·.length)).sum = ys.length
  | [], _ => rfl
  | y :: r, h => by
    have i := signs_len (ys := r) fun z hz => h z (List.mem_cons_of_mem _ hz)
    obtain ⟨c, rfl, _⟩ := h y (List.mem_cons_self ..)
    rw [List.map_cons, List.sum_cons, i, List.length_cons]
    show 1 + r.length = r.length + 1
    omega
theorem scWord : FnScope ["_law_purse_here", "_law_size", "_law_spin"] ["_law_purse_here"] (defScope sWord) := ⟨rfl, rfl, rfl, by decide +kernel, rfl, by decide +kernel, by decide +kernel⟩
theorem ok_word {fD : Addr} {fdD : FuncData} (F : FnP K "_law_word" sWord f fd) (T : Nm mg) (GD : FnOk P w K mg base CX0 2 fD fdD ["_law_purse_here", "_law_many"] spDraw) (bD : Binds K fdD ["_law_purse_here", "_law_many"] []) (kD : PySem.W.keepIn K (.ref fD) = true) (gD : mg "_law_draw" = some (.ref fD)) :
    FnOk P w K mg base CX0 3 f fd ["_law_purse_here"] spWord := by
  refine F.ok scWord (fun vs H Q E h => ?_) (fun cdv A outer s H vs Q E hr h => ?_)
  · obtain ⟨p, g, rfl, _⟩ := h
    rfl
  · obtain ⟨p, g, rfl, hP, k⟩ := h
    refine ⟨_, PSs.nox (pss_cons (ps_set (i := 1) scWord.nd rfl (Or.inl rfl) (pe_op op_add pe_int (pe_call GD hr rfl gD kD bD .nil pass0 (pa_cons (pv 0) (pa_cons (pe_ifExp (pt_cmpR op_eq (pe_call GD hr rfl gD kD bD .nil pass0 (pa_cons (pv 0) (pa_cons pe_int pa_nil))) pe_int (nomark _)) pe_int pe_int) pa_nil)))))
      (pss_one (ps_ret (pe_join pe_str (pe_lc (own := [("_law_spin", 2)]) (g := gName 2) (tt := tYes) rfl scWord.nd (pi_range1 rfl T.range (pa_cons (pv 1) pa_nil)) (blkOk_by (own := [("_law_spin", 2)]) (N := ["_law_purse_here", "_law_size", "_law_spin"]) (sc := defScope sWord) (by decide +kernel))
        (fun _ _ _ _ _ => pg_name (i := 2) scWord.nd rfl (Or.inl rfl)) (fun _ _ _ _ _ => pts_nil)
        (fun _ _ _ _ _ => pe_ix ix_str pe_str (pe_call GD hr rfl gD kD bD .nil pass0 (pa_cons (pv 0) (pa_cons pe_int pa_nil))) (fun _ _ => rfl))))))), ?_⟩
    refine ⟨_, rfl, _, rfl, p, g + 9, 3, rfl, hP, ⟨by decide, by decide⟩, fun r H1 r0 r1 hP1 hB1 => ⟨rfl, _, rfl, ?_⟩⟩
    refine ite2 (fun hd => ⟨p, g + 8, 8, rfl, hP1, ⟨by decide, by decide⟩, fun r2 H2 r20 r21 hP2 hB2 => ⟨_, _, rfl, rfl, ?_⟩⟩) (fun hd => ⟨p, g + 8, 3, rfl, hP1, ⟨by decide, by decide⟩, fun r2 H2 r20 r21 hP2 hB2 => ⟨_, _, rfl, rfl, ?_⟩⟩)
    all_goals
      have hB : But p H H2 := hB1.trans hB2
      have hn : ((1 + r2).toNat : Int) = 1 + r2 := Int.toNat_of_nonneg (by omega)
      generalize hN : (1 + r2).toNat = n at hn
      refine ⟨⟨_, rfl⟩, _, rfl, _, rfl, (show -(2 ^ 62) ≤ (1 + r2 : Int) by omega), (show (1 + r2 : Int) < 2 ^ 62 by omega), fun D hD => ?_⟩
      have nD : D ≠ p := fun z => by
        obtain ⟨x, y, c, t, e, _⟩ := hP2
        rw [z, e] at hD
        cases hD
      have hD0 : H D = none := by
        cases e : H D with
        | none => rfl
        | some o =>
          rw [hB D o nD e] at hD
          cases hD
      refine lc_range (lo := 0) (n := (1 + r2).toNat) (fun i H3 => ∃ ys : List Str, ys.length = i ∧ Signs ys ∧ H3 D = some (.lst (ys.map V.str)) ∧ PurseAt H3 p (g + 8 - i) ∧ But p H H3) ?_ ?_ ?_
      · refine ⟨[], rfl, (fun y z => nomatch z), upd_same, ?_, fun b o nb z => ?_⟩
        · obtain ⟨x, y, c, t, e, h1⟩ := hP2
          exact ⟨x, y, c, t, by rw [upd_ne nD.symm]; exact e, h1⟩
        · rw [upd_ne (ne_of_none z hD0)]
          exact hB b o nb z
      · rintro i H3 hi ⟨ys, hl, hs, hDy, hP3, hB3⟩
        have e1 : g + 8 - i = g + 8 - (i + 1) + 1 := by omega
        rw [e1] at hP3
        refine ⟨rfl, ?_⟩
        refine ⟨_, rfl, p, g + 8 - (i + 1), 26, rfl, hP3, ⟨by decide, by decide⟩, fun r3 H4 r30 r31 hP4 hB4 => ?_⟩
        obtain ⟨c, hc, hc1⟩ := abc_at r30 r31
        have hD4 : H4 D = some (.lst (ys.map V.str)) := hB4 _ _ nD hDy
        refine ⟨_, _, c, rfl, rfl, (by show 26 ≤ sizeLine; decide), hc, _, hD4, (by rw [List.length_map]; exact small1000 (by omega)), ys ++ [⟨#[c]⟩], (by rw [List.length_append]; show ys.length + 1 = _; omega), ?_, ?_, ?_, ?_⟩
        · intro y hy
          rcases List.mem_append.mp hy with z | z
          · exact hs y z
          · exact ⟨c, List.mem_singleton.mp z, hc1⟩
        · rw [upd_same, List.map_append]
          rfl
        · obtain ⟨x, y, c2, t, e, h1⟩ := hP4
          exact ⟨x, y, c2, t, by rw [upd_ne nD.symm]; exact e, h1⟩
        · intro b o nb z
          rw [upd_ne (ne_of_none z hD0)]
          exact hB4 b o nb (hB3 b o nb z)
      · rintro H3 ⟨ys, hl, hs, hDy, hP3, hB3⟩
        refine ⟨_, D, ys, rfl, rfl, .inl (SqL.of hDy), ?_, ?_⟩
        · rw [signs_len hs]
          show ys.length + ys.length * 0 ≤ 16777216
          omega
        · exact k _ H3 (word_of hs (by omega) (by omega)) (hP3.less (by omega)) hB3

theorem PurseAt.to {H H' : Hp} {p : Addr} {f : Nat} (h : PurseAt H p f) (k : ∀ o, H p = some o → H' p = some o) : PurseAt H' p f := by
  obtain ⟨x, y, c, t, e, h1⟩ := h
  exact ⟨x, y, c, t, k _ e, h1⟩
theorem PurseAt.some {H : Hp} {p : Addr} {f : Nat} (h : PurseAt H p f) : ∃ o, H p = some o := by
  obtain ⟨x, y, c, t, e, h1⟩ := h
  exact ⟨_, e⟩
def spPurses (K : PySem.W.Frag) : Sp := fun vs H Q _ => ∃ (a : Addr) (ns : List Int) (w : Int), vs = [.ref a, .int w] ∧ SqL K H a (ns.map V.int) ∧ ns.length ≤ 63 ∧ (1 ≤ w ∧ w ≤ 63) ∧
  ∀ (L : Addr) (ps : List Addr) (H' : Hp), ps ≠ [] → (ps.length : Int) ≤ w → H L = none → H' L = some (.lst (ps.map V.ref)) → (∀ q ∈ ps, PurseAt H' q FUEL ∧ H q = none ∧ q ≠ L) → ps.Nodup → Same H H' → Q (.ref L) H'
theorem scPurses : FnScope ["_law_script", "_law_few", "_law_at"] ["_law_script", "_law_few"] (defScope sPurses) := ⟨rfl, rfl, rfl, by decide +kernel, rfl, by decide +kernel, by decide +kernel⟩
theorem ok_purses {fD : Addr} {fdD : FuncData} (F : FnP K "_law_purses" sPurses f fd) (T : Nm mg) (GD : FnOk P w K mg base CX0 1 fD fdD ["_law_script", "_law_at"] (spPurse K)) (bD : Binds K fdD ["_law_script", "_law_at"] []) (kD : PySem.W.keepIn K (.ref fD) = true) (gD : mg "_law_purse" = some (.ref fD)) :
    FnOk P w K mg base CX0 2 f fd ["_law_script", "_law_few"] (spPurses K) := by
  refine F.ok scPurses (fun vs H Q E h => ?_) (fun cdv A outer s H vs Q E hr h => ?_)
  · obtain ⟨a, ns, w, rfl, _⟩ := h
    rfl
  · obtain ⟨a, ns, w, rfl, hS, hl, hw, k⟩ := h
    refine ⟨_, PSs.nox (pss_one (ps_ret (pe_lc (own := [("_law_at", 2)]) (g := gName 2) (tt := tYes) rfl scPurses.nd (pi_range1 rfl T.range (pa_cons (pe_callB (call_max2 rfl) (by rfl) T.max (by decide +kernel) (pa_cons pe_int (pa_cons (pe_callB (call_min2 rfl) (by rfl) T.min (by decide +kernel) (pa_cons (pv 1) (pa_cons (pe_callB call_len (by rfl) T.len PySem.boot_len (pa_cons (pv 0) pa_nil)) pa_nil))) pa_nil))) pa_nil)) (blkOk_by (own := [("_law_at", 2)]) (N := ["_law_script", "_law_few", "_law_at"]) (sc := defScope sPurses) (by decide +kernel))
        (fun _ _ _ _ _ => pg_name (i := 2) scPurses.nd rfl (Or.inl rfl)) (fun _ _ _ _ _ => pts_nil)
        (fun _ _ _ _ _ => pe_call GD hr rfl gD kD bD .nil pass0 (pa_cons (pv 0) (pa_cons (pv 2) pa_nil)))))), ?_⟩
    generalize hm : (if (ns.length : Int) < w then (ns.length : Int) else w) = m
    generalize hn : (if m > 1 then m else 1) = n
    have hm63 : m ≤ w := by
      rw [← hm]
      split <;> omega
    have hn1 : 1 ≤ n ∧ n ≤ w := by
      rw [← hn]
      split <;> omega
    refine ⟨_, rfl, _, rfl, _, ns.length, rfl, Or.inl ⟨_, hS, (List.length_map _).symm⟩, _, _, rfl, _, _, rfl, n, ?_, (by omega), (by omega), fun D hD => ?_⟩
    · rw [hm, hn]
    refine lc_range (lo := 0) (n := n.toNat) (fun i H3 => ∃ ps : List Addr, ps.length = i ∧ H3 D = some (.lst (ps.map V.ref)) ∧ (∀ q ∈ ps, PurseAt H3 q FUEL ∧ H q = none ∧ q ≠ D) ∧ ps.Nodup ∧ Same H H3) ?_ ?_ ?_
    · refine ⟨[], rfl, upd_same, (fun q z => nomatch z), List.nodup_nil, fun b o z => ?_⟩
      rw [upd_ne (ne_of_none z hD)]
      exact z
    · rintro i H3 hi ⟨ps, hl3, h3, hps, hnd, s3⟩
      refine ⟨rfl, ?_⟩
      refine ⟨_, rfl, _, rfl, a, ns, (0 + (i : Int)), rfl, s3.seq hS, ⟨by omega, by omega⟩, fun q H4 nq s4 hq => ?_⟩
      have h4 : H4 D = some (.lst (ps.map V.ref)) := s4 _ _ h3
      have nqD : q ≠ D := fun z => by
        rw [z, h3] at nq
        cases nq
      have nqp : q ∉ ps := fun z => by
        obtain ⟨o, e⟩ := (hps q z).1.some
        rw [nq] at e
        cases e
      refine ⟨_, h4, (by rw [List.length_map]; exact small1000 (by omega)), ps ++ [q], (by rw [List.length_append]; show ps.length + 1 = _; omega), ?_, fun z hz => ?_, ?_, fun b o z => ?_⟩
      · rw [upd_same, List.map_append]
        rfl
      · rcases List.mem_append.mp hz with hz | hz
        · obtain ⟨h1, h2, h5⟩ := hps z hz
          exact ⟨(h1.to fun o e => by rw [upd_ne h5]; exact s4 _ _ e), h2, h5⟩
        · rw [List.mem_singleton.mp hz]
          exact ⟨(hq.to fun o e => by rw [upd_ne nqD]; exact e), s3.free nq, nqD⟩
      · refine List.nodup_append.mpr ⟨hnd, by simp, fun x hx y hy e => ?_⟩
        rw [List.mem_singleton.mp hy] at e
        exact nqp (e ▸ hx)
      · rw [upd_ne (ne_of_none z hD)]
        exact s4 _ _ (s3 _ _ z)
    · rintro H3 ⟨ps, hl3, h3, hps, hnd, s3⟩
      refine k D ps H3 (fun z => ?_) (by omega) hD h3 hps hnd s3
      rw [z] at hl3
      simp only [List.length_nil] at hl3
      omega
end
end Yt

set_option Elab.async false
set_option linter.all false
set_option maxRecDepth 100000
set_option maxHeartbeats 2000000
namespace Yt
open PySem PySem.Spec PyProof.Rows L2
/-! ### dicts whose keys are tuples, made by a comprehension -/
/-- a new item under a tuple, as the comprehension stores it -/
theorem set_tup {X : Cx} {pins : List (Addr × Obj)} {σ : L2.St} {H : Hp} {s : Shared} {E : Value → Shared → Prop} {D b : Addr} {m : List (List Key × V)} {k : List Key} {v : V} {u r : Value} {Q : Unit → Shared → Prop}
    (hu : X.A.units < cLine) (I : Inv X pins σ H s) (hD : H D = some (.dT m)) (few : m.length < sizeLine) (hb : H b = some (.tup (k.map kV))) (ry : RelV (.ref b) u) (rv : RelV v r)
    (q : ∀ t, Inv X pins σ (upd H D (.dT (putK m k v))) t → Q () t) : wpAny (model X.prog X.w) X.A (dictSet D u r) Q E s := by
  obtain rfl : u = Value.ref b := ry
  obtain ⟨le, nosys, xs, rel, dd⟩ := dt_of I.hok hD
  refine wpAny_dictSet_heap (hsz := by rw [← Paired.length rel]; exact le) hu (key_of I.hok hb) dd fun h2 dd2 same => q _ ?_
  obtain ⟨o, es, ep, f1, f2, f3, f4, _, f5⟩ := dd2
  have small : (putK m k v).length ≤ sizeLine := by
    have := length_putK m k v
    omega
  refine d_write I (by rw [hD]; trivial) same ⟨o, f1⟩ ⟨small, nosys, _, (rel.put k hb rv).keeps fun c ys ec => ?_, o, es, ep, f1, f2, f3, f4, f5⟩
  exact (upd_ne (ne_of ec hD (fun z => nomatch z))).trans ec
/-- what one turn of such a comprehension stores -/
def stT (D : Addr) (y z : V) (H : Hp) (N : Hp → Prop) : Prop := ∃ (m : List (List Key × V)) (k : List Key) (b : Addr), y = .ref b ∧ H b = some (.tup (k.map kV)) ∧ H D = some (.dT m) ∧ m.length < sizeLine ∧ N (upd H D (.dT (putK m k z)))
/-- one turn -/
def turnT (g : TG) (tt : TT) (tk tv : TE) (vs : List Nat) (σ : L2.St) (D : Addr) (x : V) (H : Hp) (N : Hp → Prop) : Prop :=
  g x (wipe σ vs) H fun σ2 H2 => wipe σ2 vs = wipe σ vs ∧ tt σ2 H2 fun c H3 => if c = true then tk σ2 H3 fun y H4 => tv σ2 H4 fun z H5 => stT D y z H5 N else N H3
def goesT (g : TG) (tt : TT) (tk tv : TE) (vs : List Nat) (σ : L2.St) (J : It) (D : Addr) (W : Nat → Nat → Hp → Prop) (R : Hp → Prop) : Prop :=
  ∀ i m H, W i m H → (J.stop i H ∧ R H) ∨ (J.go i H ∧ ∃ N : Hp → Prop, (∀ H', N H' → ∃ m', m' < m ∧ W (i + 1) m' H') ∧ ∀ x H', J.yld i H x H' → turnT g tt tk tv vs σ D x H' N)
/-- {k: v for target in iter if ..}, its keys tuples -/
def tDcT (wi : TI) (g : TG) (tt : TT) (tk tv : TE) (vs : List Nat) : TE := fun σ H Q =>
  wi σ H fun J H1 => ∀ D, H1 D = none → ∃ W : Nat → Nat → Hp → Prop, (∃ m, W 0 m (upd H1 D (.dT []))) ∧ goesT g tt tk tv vs σ J D W fun H2 => Q (.ref D) H2

section
variable {X : Cx}
/-- the comprehension: its block, its loop, its end -/
theorem dcT_core {pins : List (Addr × Obj)} {s : Shared} {σ : L2.St} {H : Hp} {Q : VK} {kx vx tg it : Expr} {ifs : List Expr} {sc : Scope} {own : List (Str × Nat)} {p p' : Pos} {wi : TI} {g : TG} {tt : TT} {tk tv : TE} {Qf : Value → Shared → Prop}
    (calm : X.calm = true) (nd : X.N.Nodup) (hu : X.A.units < cLine) (I : Inv X pins σ H s) (hi : PI X tg it wi) (ok : BlkOk X.N X.env.scope sc own)
    (hg : ∀ s H C cl fp, PG (X.blk s H sc (compEnvC sc cl C X.env) fp) tg g) (ht : ∀ s H C cl fp, PTs (X.blk s H sc (compEnvC sc cl C X.env) fp) ifs tt)
    (hk : ∀ s H C cl fp, PE (X.blk s H sc (compEnvC sc cl C X.env) fp) kx tk) (hv : ∀ s H C cl fp, PE (X.blk s H sc (compEnvC sc cl C X.env) fp) vx tv)
    (hs : ∀ x, foldedSetIterable it X.env x = pure x) (h : tDcT wi g tt tk tv (own.map (·.2)) σ H Q)
    (fin : ∀ D C t m H', Inv X pins σ H' t → Q (.ref D) H' → t.heap.Ns C m → FpOk X pins H' C → compPost (model X.prog X.w) X.A X.xe none Qf (.ref D) C (.ok .next) t) :
    wpAny (model X.prog X.w) X.A (comprehension (.DictComp kx vx [⟨tg, it, ifs, 0⟩] sc p) sc X.env p' newDict false (eval it X.env)) Qf X.xe s := by
  have clo : ∀ y ∈ sc.names, y.2 = .free → ∃ c, X.env.cells.lookup y.1 = some c := fun y hy e => (ok.free y hy e).elim (fun k => I.ok.has _ (.inl k)) fun k => I.ok.has _ (.inr k)
  refine wpAny_comprehension_free (use := none) rfl hs (closure_ok clo) ok.kind (fun y hy e => by rw [ok.uniq y hy, e]) (thn (hi.run pins s σ H _ I h) fun _ s1 hx => thn hx fun _ s2 ⟨a, fp, tn, J, H2, ea, I2, T, st2, f2, q⟩ => ?_)
  subst ea
  refine wpAny_newObj_type (newEnv_comp ?_)
  obtain ⟨D, hD⟩ : ∃ D, D = s2.heap.objs.size := ⟨_, rfl⟩
  rw [← hD]
  have nD : H2 D = none := I2.hok.fresh (Nat.le_of_eq hD.symm)
  obtain ⟨W, ⟨m0, w0⟩, turn⟩ := q D nD
  have I3 : Inv X pins σ (upd H2 D (.dT [])) ⟨s2.heap.push { cls := .type "dict", data := .dict #[] }, s2.gens, s2.drawn, s2.toks, s2.os⟩ := by
    refine I2.laid (t' := s2.toks) (fun b o e => Heap.get?_push_of_some _ e) (Nat.le_of_eq hD.symm) ?_
    rw [hD]
    exact dt_empty s2.heap I2.big
  have live : ∀ b ∈ fp, b < s2.heap.objs.size := fun b hb => (T.obj _ _ st2 b hb).elim fun o e => Heap.lt_size e.1
  have f3 : ∀ b ∈ fp, FpOk X pins (upd H2 D (.dT [])) b ∧ b < (s2.heap.push { cls := .type "dict", data := .dict #[] }).objs.size := fun b hb =>
    ⟨⟨(upd_ne (by rw [hD]; exact Nat.ne_of_lt (live b hb))).trans (f2 b hb).1, (f2 b hb).2⟩, by rw [Heap.size_push]; exact Nat.lt_succ_of_lt (live b hb)⟩
  have st3 : tn 0 (s2.heap.push { cls := .type "dict", data := .dict #[] }) := T.keep _ _ _ st2 fun b _ o e => Heap.get?_push_of_some _ e
  have I4 := block_start I3 ok nd f3
  generalize hs3 : (⟨s2.heap.push { cls := .type "dict", data := .dict #[] }, s2.gens, s2.drawn, s2.toks, s2.os⟩ : Shared) = s3 at I3 I4 ⊢
  have h3 : s3.heap = s2.heap.push { cls := .type "dict", data := .dict #[] } := by rw [← hs3]
  rw [← h3] at f3 st3
  have pg := hg s3 (upd H2 D (.dT [])) s3.heap.objs.size (cellsFrom (s3.heap.objs.size + 1) sc.names (cloFrom X.env.cells sc.names [])) fp
  have pt := ht s3 (upd H2 D (.dT [])) s3.heap.objs.size (cellsFrom (s3.heap.objs.size + 1) sc.names (cloFrom X.env.cells sc.names [])) fp
  have pk := hk s3 (upd H2 D (.dT [])) s3.heap.objs.size (cellsFrom (s3.heap.objs.size + 1) sc.names (cloFrom X.env.cells sc.names [])) fp
  have pv := hv s3 (upd H2 D (.dT [])) s3.heap.objs.size (cellsFrom (s3.heap.objs.size + 1) sc.names (cloFrom X.env.cells sc.names [])) fp
  have unt : ∀ b ∈ fp, (upd H2 D (.dT [])) b = none := fun b hb => (f3 b hb).1.1
  show codeAny _ _ (.compStart (.DictComp kx vx [⟨tg, it, ifs, 0⟩] sc p) 0 (.ref a) (.ref D) (compEnvC sc (cellsFrom (s3.heap.objs.size + 1) sc.names (cloFrom X.env.cells sc.names [])) s3.heap.objs.size X.env)) _ ({ s3 with heap := pushCells (s3.heap.push { cls := .type "dict", data := .dict #[] }) sc.names } : Shared)
  obtain ⟨ce, hce⟩ : ∃ c, c = compEnvC sc (cellsFrom (s3.heap.objs.size + 1) sc.names (cloFrom X.env.cells sc.names [])) s3.heap.objs.size X.env := ⟨_, rfl⟩
  rw [← hce] at I4 pg pt pk pv ⊢
  have cL : ce.locals = s3.heap.objs.size := by rw [hce] <;> rfl
  obtain ⟨H3, hH3⟩ : ∃ G, G = upd H2 D (.dT []) := ⟨_, rfl⟩
  rw [← hH3] at I3 I4 pg pt pk pv w0 unt f3
  generalize hs4 : ({ s3 with heap := pushCells (s3.heap.push { cls := .type "dict", data := .dict #[] }) sc.names } : Shared) = s4 at I4 ⊢
  have st4 : tn 0 s4.heap := T.keep _ _ _ st3 fun b _ o e => by
    rw [← hs4]
    exact pushCells_keeps _ _ _ _ (Heap.get?_push_of_some _ e)
  have pinned : ∀ {σ' : L2.St} {G : Hp} {t : Shared}, Inv (X.blk s3 H3 sc ce fp) [] σ' G t → (∀ b ∈ fp, G b = none) → ∀ b ∈ fp, FpOk (X.blk s3 H3 sc ce fp) [] G b := fun {σ' G t} J' hn b hb =>
    ⟨hn b hb, (J'.ok.exf b hb).1, J'.ok.exfs b hb, .inl hb, fun x c e => (J'.ok.exf b hb).2 x c e, fun r hr => absurd (show r ∈ ([] : List (Addr × Obj)) ++ [] from hr) (by simp)⟩
  have loop : codeAny (model X.prog X.w) X.A (.compLoop (.DictComp kx vx [⟨tg, it, ifs, 0⟩] sc p) 0 (.ref a) (.ref D) ce) (compPost (model X.prog X.w) X.A X.xe none Qf (.ref D) s3.heap.objs.size) s4 := by
    refine compLoop_anyD (fun n t => ∃ i G, Inv (X.blk s3 H3 sc ce fp) [] (wipe σ (own.map (·.2))) G t ∧ tn i t.heap ∧ (∀ b ∈ fp, G b = none) ∧ W i n G) ?_ m0 ⟨0, H3, I4, st4, unt, w0⟩
    rintro n t5 ⟨i, H5, I5, st5, n5, w5⟩
    rcases turn i n H5 w5 with ⟨stop, qq⟩ | ⟨go, N, hN, step⟩
    · refine thnF (T.done (X.blk s3 H3 sc ce fp) rfl rfl rfl calm i [] t5 _ H5 (fun _ _ => False) I5 (pinned I5 n5) st5 stop) fun r t6 ⟨hr, I6⟩ => ?_
      subst hr
      have nC : H5 s3.heap.objs.size = none := by
        have z : H5 ce.locals = none := I6.free
        rwa [cL] at z
      obtain ⟨mm, hn, _⟩ := I6.loc
      have hn' : t6.heap.Ns ce.locals mm := hn
      rw [cL] at hn'
      exact fin D s3.heap.objs.size t6 mm H5 (I3.call' (ch := fp) I6.os I6.base I6.hok I6.bare fun b hb => ⟨(f3 b hb).1.2.2.2.1, (f3 b hb).1.2.1, (f3 b hb).1.2.2.2.2.1, (f3 b hb).1.2.2.2.2.2⟩) qq hn' (I3.fpOk (Nat.le_refl _) nC)
    · refine thnF (T.item (X.blk s3 H3 sc ce fp) rfl rfl rfl calm i [] t5 _ H5 (fun _ _ => False) I5 (pinned I5 n5) st5 go) fun r t6 ⟨u, hr, h6⟩ => ?_
      subst hr
      refine thnF h6 fun _ t7 ⟨x, H7, I7, r7, y7, st7, n7⟩ => ?_
      refine thnF (pg.run _ t7 _ H7 x u _ (I7.pinned (pinned I7 n7) (T.obj _ _ st7)) r7 (step x H7 y7)) fun _ t8 ⟨σ8, H8, I8, hw8, q8⟩ => ?_
      refine thnF (pt.run _ t8 σ8 H8 _ I8 q8) fun b t9 ⟨H9, I9, q9⟩ => ?_
      have back : ∀ {t : Shared} {G : Hp}, Inv (X.blk s3 H3 sc ce fp) ([] ++ pinsAt fp t7.heap) σ8 G t → N G → ∃ m, m < n ∧ ∃ i G, Inv (X.blk s3 H3 sc ce fp) [] (wipe σ (own.map (·.2))) G t ∧ tn i t.heap ∧ (∀ b ∈ fp, G b = none) ∧ W i m G := fun {t G} J' nx => by
        obtain ⟨m', lt, w'⟩ := hN G nx
        have held : ∀ b ∈ fp, ∀ o, t7.heap.get? b = some o → t.heap.get? b = some o ∧ G b = none := fun b hb o e =>
          have z := J'.pin (b, o) (List.mem_append_right _ (List.mem_append_right _ (mem_pinsAt hb e)))
          ⟨z.1, z.2.1⟩
        refine ⟨m', lt, i + 1, G, (J'.unpinned (pins := [])).weak (by rw [← hw8, wipe_length]) (fun j v e => (wipe_some (hw8.symm ▸ e)).1), T.keep _ _ _ st7 fun b hb o e => (held b hb o e).1, fun b hb => ?_, w'⟩
        obtain ⟨o, e, _⟩ := T.obj _ _ st7 b hb
        exact (held b hb o e).2
      cases b with
      | false => exact back I9 q9
      | true =>
        refine thnF (pk.run _ t9 σ8 H9 _ I9 q9) fun zk t10 ⟨yk, H10, I10, r10, q10⟩ => ?_
        refine thnF (pv.run _ t10 σ8 H10 _ I10 q10) fun zv t11 ⟨yv, H11, I11, r11, mm, k, bb, ek, hb11, hD11, few, nx⟩ => ?_
        subst ek
        exact set_tup (X := X.blk s3 H3 sc ce fp) hu I11 hD11 few hb11 r10 r11 fun t12 I12 => back I12 nx
  exact codeAny_compStart_dict loop (T.self X.A 0 _ _ _ st4 loop)
theorem pe_dcT {kx vx tg it : Expr} {ifs : List Expr} {sc : Scope} {own : List (Str × Nat)} {p : Pos} {wi : TI} {g : TG} {tt : TT} {tk tv : TE} (calm : X.calm = true) (nd : X.N.Nodup) (hu : X.A.units < cLine) (hi : PI X tg it wi) (ok : BlkOk X.N X.env.scope sc own)
    (hg : ∀ s H C cl fp, PG (X.blk s H sc (compEnvC sc cl C X.env) fp) tg g) (ht : ∀ s H C cl fp, PTs (X.blk s H sc (compEnvC sc cl C X.env) fp) ifs tt)
    (hk : ∀ s H C cl fp, PE (X.blk s H sc (compEnvC sc cl C X.env) fp) kx tk) (hv : ∀ s H C cl fp, PE (X.blk s H sc (compEnvC sc cl C X.env) fp) vx tv) (hs : ∀ x, foldedSetIterable it X.env x = pure x := by intro _; rfl) :
    PE X (.DictComp kx vx [⟨tg, it, ifs, 0⟩] sc p) (tDcT wi g tt tk tv (own.map (·.2))) := by
  refine ⟨fun pins s σ H Q I h => ?_⟩
  rw [arm_eval_DictComp]
  refine dcT_core calm nd hu I hi ok hg ht hk hv hs h fun D C t m H' J q hn f => ⟨m, hn, fun h2 sb => ?_⟩
  obtain ⟨f0, f1, f2, f3, f4, f5⟩ := f
  exact ⟨.ref D, H', J.turned (t' := t.toks) (fun b o hb e => (sb.2 b hb).trans e) f0 f1 f3 f4 f5, rfl, q⟩
end
/-- such a comprehension over a list that stays -/
theorem dcT_list {K : PySem.W.Frag} {a D : Addr} {xs : List V} {g : TG} {tt : TT} {tk tv : TE} {vs : List Nat} {σ : L2.St} {H1 : Hp} {R : Hp → Prop} (Pv : Nat → Hp → Prop) (h0 : Pv 0 (upd H1 D (.dT []))) (hl : ∀ i H, i ≤ xs.length → Pv i H → SqL K H a xs)
    (hs : ∀ i x H, xs[i]? = some x → Pv i H → turnT g tt tk tv vs σ D x H (Pv (i + 1))) (hd : ∀ H, Pv xs.length H → R H) : ∃ W : Nat → Nat → Hp → Prop, (∃ m, W 0 m (upd H1 D (.dT []))) ∧ goesT g tt tk tv vs σ (Itl K a) D W R := by
  refine ⟨fun i m H => m = xs.length - i ∧ i ≤ xs.length ∧ Pv i H, ⟨_, rfl, Nat.zero_le _, h0⟩, ?_⟩
  rintro i m H ⟨rfl, le, pv⟩
  rcases Nat.lt_or_ge i xs.length with lt | ge
  · refine .inr ⟨⟨xs, xs[i], hl i H le pv, List.getElem?_eq_getElem lt⟩, Pv (i + 1), fun H' p' => ⟨xs.length - (i + 1), by omega, rfl, lt, p'⟩, ?_⟩
    rintro x H' ⟨rfl, y⟩
    exact hs i x _ (y xs (hl i _ le pv)) pv
  · obtain rfl : i = xs.length := Nat.le_antisymm le ge
    exact .inl ⟨⟨xs, hl _ H le pv, Nat.le_refl _⟩, hd H pv⟩
end Yt

set_option Elab.async false
set_option linter.all false
set_option maxRecDepth 100000
set_option maxHeartbeats 2000000
namespace Yt
open PySem PySem.Spec PyProof.Rows L2
/-! ### dict(xs), xs a list of pairs whose first ones are tuples -/
/-- what such a dict holds: a later pair wins, the place is the first one's -/
def mergeT (m l : List (List Key × V)) : List (List Key × V) := l.foldl (fun acc e => putK acc e.1 e.2) m
theorem mergeT_len (l : List (List Key × V)) : ∀ m, (mergeT m l).length ≤ m.length + l.length := by
  induction l with
  | nil => exact fun m => Nat.le_refl _
  | cons e l ih =>
    intro m
    have h1 := ih (putK m e.1 e.2)
    have h2 := length_putK m e.1 e.2
    show (mergeT (putK m e.1 e.2) l).length ≤ _
    rw [List.length_cons]
    omega
theorem putK_new {m : List (List Key × V)} {k : List Key} {v : V} (h : k ∉ m.map (·.1)) : putK m k v = m ++ [(k, v)] := by
  unfold putK
  rw [if_neg]
  intro z
  obtain ⟨e, he, q⟩ := List.any_eq_true.mp z
  exact h (List.mem_map.mpr ⟨e, he, of_decide_eq_true q⟩)
/-- unlike keys: just the pairs -/
theorem mergeT_unlike (l : List (List Key × V)) : ∀ m, ((m ++ l).map (·.1)).Nodup → mergeT m l = m ++ l := by
  induction l with
  | nil => intro m _; rw [List.append_nil] <;> rfl
  | cons e l ih =>
    intro m nd
    have hn : e.1 ∉ m.map (·.1) := fun z => by
      rw [List.map_append, List.map_cons] at nd
      exact (List.nodup_append.mp nd).2.2 _ z _ List.mem_cons_self rfl
    have assoc : m ++ e :: l = (m ++ [e]) ++ l := by rw [List.append_assoc] <;> rfl
    show mergeT (putK m e.1 e.2) l = _
    rw [putK_new hn, ih _ (by rw [← assoc]; exact nd)]
    exact assoc.symm
section
variable {X : Cx}
abbrev PairT (K : PySem.W.Frag) (H : Hp) (p : Addr) (e : Addr × List Key × V) : Prop := SqT K H p [.ref e.1, e.2.2] ∧ H e.1 = some (.tup (e.2.1.map kV))
theorem trips {pins : List (Addr × Obj)} {σ : L2.St} {H : Hp} {s : Shared} (I : Inv X pins σ H s) : ∀ {ps : List Addr} {ks : List (Addr × List Key × V)}, Paired (PairT X.K H) ps ks →
    ∃ tr : List (List Key × Addr × Value), Paired (fun (e : Addr × List Key × V) t => t.1 = e.2.1 ∧ t.2.1 = e.1 ∧ H e.1 = some (.tup (e.2.1.map kV)) ∧ RelV e.2.2 t.2.2) ks tr ∧ tr.length = ps.length ∧
      ∀ (j : Nat) t, tr[j]? = some t → ∃ b, ps[j]? = some b ∧ IsTup s.heap b #[.ref t.2.1, t.2.2]
  | _, _, .nil => ⟨[], .nil, rfl, fun j t e => by simp at e⟩
  | _, _, .cons (a := p) (b := e) ⟨h, hk⟩ r => by
    obtain ⟨tr, rel, hl, hp⟩ := trips I r
    obtain ⟨its, rv, it, _⟩ := I.tuple h
    obtain ⟨u, y, ei, ru, ry⟩ := vals2 rv
    subst ei
    obtain rfl : u = Value.ref e.1 := ru
    refine ⟨(e.2.1, e.1, y) :: tr, .cons ⟨rfl, rfl, hk, ry⟩ rel, by rw [List.length_cons, List.length_cons, hl], fun j t ht => ?_⟩
    match j, ht with
    | 0, ht =>
      obtain rfl : (e.2.1, e.1, y) = t := Option.some.inj ht
      exact ⟨p, rfl, it⟩
    | j + 1, ht =>
      obtain ⟨b, e1, e2⟩ := hp j t (by simpa using ht)
      exact ⟨b, by simpa using e1, e2⟩
theorem merge_kt {H : Hp} : ∀ {ks : List (Addr × List Key × V)} {tr : List (List Key × Addr × Value)} {m : List (List Key × V)} {xs : List (List Key × Addr × Value)},
    Paired (fun (e : Addr × List Key × V) t => t.1 = e.2.1 ∧ t.2.1 = e.1 ∧ H e.1 = some (.tup (e.2.1.map kV)) ∧ RelV e.2.2 t.2.2) ks tr → KT H m xs → KT H (mergeT m (ks.map (·.2))) (storedAllH xs tr)
  | _, _, _, _, .nil, r => r
  | _, _, m, xs, .cons (a := e) (b := t) ⟨h1, h2, h3, h4⟩ rest, r => by
    have := merge_kt rest (r.put e.2.1 (b := e.1) h3 h4)
    rw [← h1, ← h2] at this
    rw [List.map_cons]
    show KT H (mergeT (putK m e.2.1 e.2.2) _) (storedAllH (storedH xs t.1 t.2.1 t.2.2) _)
    rw [← h1]
    exact this
theorem call_dictPT (calm : X.calm = true) (hu : X.A.units + 2 < cLine) : CallR X (.type "dict") (fun xs H Q => ∃ (a : Addr) (ps : List Addr) (ks : List (Addr × List Key × V)), xs = [.ref a] ∧ SqL X.K H a (ps.map V.ref) ∧ Paired (PairT X.K H) ps ks ∧
    ∀ p, H p = none → Q (.ref p) (upd H p (.dT (mergeT [] (ks.map (·.2)))))) := by
  intro pins s σ H xs us Q I r q
  obtain ⟨a, ps, ks, rfl, hq, hp, q⟩ := q
  obtain ⟨u, rfl, rx⟩ := vals1 r
  cases rx
  obtain ⟨its, rv, pl, hz⟩ := I.list hq
  obtain rfl := refs_at rv
  rw [List.length_map] at hz
  obtain ⟨tr, rel, hl, hpr⟩ := trips I hp
  obtain ⟨o, n, ho, hc, hd, hdat⟩ := pl
  have nm : (tr.map fun t => (Value.ref t.2.1, t.2.2)).length = tr.length := List.length_map _
  have key : ∀ x ∈ tr, (tupleKind (mixKind X.prog X.w)).is s.heap x.1 x.2.1 := by
    have go : ∀ {ks : List (Addr × List Key × V)} {tr : List (List Key × Addr × Value)}, Paired (fun (e : Addr × List Key × V) t => t.1 = e.2.1 ∧ t.2.1 = e.1 ∧ H e.1 = some (.tup (e.2.1.map kV)) ∧ RelV e.2.2 t.2.2) ks tr → ∀ x ∈ tr, (tupleKind (mixKind X.prog X.w)).is s.heap x.1 x.2.1 := by
      intro ks tr h
      induction h with
      | nil => intro x hx; exact nomatch hx
      | cons h _ ih =>
        intro x hx
        rcases List.mem_cons.mp hx with rfl | hx
        · rw [h.1, h.2.1]
          exact key_of I.hok h.2.2.1
        · exact ih x hx
    exact go rel
  refine PySem.call_dict_pairsH (knd := tupleKind (mixKind X.prog X.w)) (ps := tr) (PairArg.list a (ps.map Value.ref).toArray (fun j => ps.getD j 0) (tr.map fun t => (Value.ref t.2.1, t.2.2))) (I.ok.hd calm) hu ⟨⟨o, n, ho, hc, hd, hdat⟩, ?_, fun j k v e => ?_⟩
    ⟨nm.symm, fun i kk v e => ?_⟩ (fun h2 keep x hx => ?_) (by rw [nm, hl]; exact hz) (fun h2 tk dd keep => ?_)
  · rw [nm, hl]
    simp
  · rw [List.getElem?_map] at e
    obtain ⟨t, et, ee⟩ := Option.map_eq_some_iff.mp e
    cases ee
    obtain ⟨b, e1, e2⟩ := hpr j t et
    have eb : ps.getD j 0 = b := by rw [List.getD_eq_getElem?_getD, e1] <;> rfl
    show _ = some (Value.ref (ps.getD j 0)) ∧ PairAt s.heap (ps.getD j 0) _ _
    rw [eb]
    exact ⟨by simp [e1], .inl e2⟩
  · have e : (tr.map fun t => (Value.ref t.2.1, t.2.2))[i]? = some (kk, v) := e
    rw [List.getElem?_map] at e
    obtain ⟨t, et, ee⟩ := Option.map_eq_some_iff.mp e
    cases ee
    exact ⟨t.1, t.2.1, et, rfl⟩
  · obtain ⟨o', items, n', f1, f2⟩ := key x hx
    exact ⟨o', items, n', keep _ _ (Nat.ne_of_lt (Heap.lt_size f1)) (by simp) f1, f2⟩
  · have nosys : (s.heap.objs.size == sysModules) = false := beq_eq_false_iff_ne.mpr (Nat.ne_of_gt I.big)
    have few : (mergeT [] (ks.map (·.2))).length ≤ sizeLine := by
      refine Nat.le_trans (mergeT_len _ _) ?_
      rw [List.length_nil, Nat.zero_add, List.length_map, rel.length, hl]
      exact hz
    obtain ⟨q1, es, ep, d1, d2, d3, d4, _, d5⟩ := dd
    refine ⟨.ref s.heap.objs.size, upd H s.heap.objs.size (.dT (mergeT [] (ks.map (·.2)))), I.laid (t' := tk) (fun b o e => keep b o (by simp) e) (Nat.le_refl _) ⟨few, nosys, _, (merge_kt rel (.nil : KT H [] [])).keeps fun b ys ec => ?_, q1, es, ep, d1, d2, d3, d4, d5⟩, rfl, q _ (I.hok.fresh (Nat.le_refl _))⟩
    exact (upd_ne (ne_of_none ec (I.hok.fresh (Nat.le_refl _)))).trans ec
end
end Yt

set_option Elab.async false
set_option linter.all false
set_option maxRecDepth 100000
set_option maxHeartbeats 2000000
namespace Yt
open PySem PySem.Spec PyProof.Rows L2
abbrev sExact : Stmt := top 45
abbrev sWords : Stmt := top 47
abbrev sMarks : Stmt := top 48
theorem same_new {H : Hp} {a : Addr} {o : HO} (n : H a = none) : Same H (upd H a o) := fun b u z => by
  rw [upd_ne (ne_of_none z n)]
  exact z
end Yt

set_option Elab.async false
set_option linter.all false
set_option maxRecDepth 100000
set_option maxHeartbeats 2000000
namespace Yt
open PySem PySem.Spec PyProof.Rows L2
structure Nm6 (mg : Str → Option Value) : Prop where
  isi : mg "isinstance" = none
  list : mg "list" = none
  tuple : mg "tuple" = none
  dict : mg "dict" = none
  bool : mg "bool" = none
  zip : mg "zip" = none
  all : mg "all" = none
/-- what holds nothing -/
def leafV : V → Bool
  | .int _ | .bl _ | .str _ | .non => true
  | _ => false
/-- the same data, of the same kinds, at most so deep; nothing of it stands at A -/
def Ex (H : Hp) : Nat → List Addr → V → V → Prop
  | 0, _, x, y => x = y ∧ leafV x = true
  | n + 1, A, x, y => (x = y ∧ leafV x = true) ∨
    (∃ (a b : Addr) (xs ys : List V), x = .ref a ∧ y = .ref b ∧ a ∉ A ∧ b ∉ A ∧ H a = some (.lst xs) ∧ H b = some (.lst ys) ∧ Paired (Ex H n A) xs ys ∧ xs.length ≤ 1000) ∨
    (∃ (a b : Addr) (xs ys : List V), x = .ref a ∧ y = .ref b ∧ a ∉ A ∧ b ∉ A ∧ H a = some (.tup xs) ∧ H b = some (.tup ys) ∧ Paired (Ex H n A) xs ys ∧ xs.length ≤ 1000) ∨
    (∃ (a b : Addr) (m l : List (List Key × V)), x = .ref a ∧ y = .ref b ∧ a ≠ b ∧ a ∉ A ∧ b ∉ A ∧ H a = some (.dT m) ∧ H b = some (.dT l) ∧ Paired (fun p q => p.1 = q.1 ∧ p.1.length ≤ 1000 ∧ Ex H n (a :: A) p.2 q.2) m l ∧ m.length ≤ 1000 ∧ 2 ≤ n ∧ (m.map (·.1)).Nodup)
theorem Ex.to {H H' : Hp} : ∀ {n : Nat} {A : List Addr} {x y : V}, Ex H n A x y → (∀ c o, c ∉ A → H c = some o → H' c = some o) → Ex H' n A x y
  | 0, _, _, _, h, _ => h
  | n + 1, A, x, y, h, k => by
    rcases h with h | ⟨a, b, xs, ys, rfl, rfl, h1, h2, h3, h4, h5, h6⟩ | ⟨a, b, xs, ys, rfl, rfl, h1, h2, h3, h4, h5, h6⟩ | ⟨a, b, m, l, rfl, rfl, h0, h1, h2, h3, h4, h5, h6⟩
    · exact .inl h
    · exact .inr (.inl ⟨a, b, xs, ys, rfl, rfl, h1, h2, k _ _ h1 h3, k _ _ h2 h4, Paired.mapP h5 fun _ _ z => z.to k, h6⟩)
    · exact .inr (.inr (.inl ⟨a, b, xs, ys, rfl, rfl, h1, h2, k _ _ h1 h3, k _ _ h2 h4, Paired.mapP h5 fun _ _ z => z.to k, h6⟩))
    · exact .inr (.inr (.inr ⟨a, b, m, l, rfl, rfl, h0, h1, h2, k _ _ h1 h3, k _ _ h2 h4, Paired.mapP h5 fun _ _ z => ⟨z.1, z.2.1, z.2.2.to fun c o hc => k c o fun q => hc (List.mem_cons_of_mem _ q)⟩, h6⟩))
theorem Ex.leaf {H : Hp} {n : Nat} {A : List Addr} {x : V} (h : leafV x = true) : Ex H n A x x := by
  cases n with
  | zero => exact ⟨rfl, h⟩
  | succ n => exact .inl ⟨rfl, h⟩
theorem bl_self (x : V) : V.bl (decide (x = x)) = V.bl true := by simp
theorem any_lt {K : PySem.W.Frag} {t : Value} {b c d : Bool} (h1 : PySem.W.kitOne K t (.type "list") = some b) (h2 : PySem.W.kitOne K t (.type "tuple") = some c) (e : (b || c) = d) : PySem.W.kitAny K t [.type "list", .type "tuple"] = some d := by
  subst e
  unfold PySem.W.kitAny
  rw [h1]
  cases b
  · unfold PySem.W.kitAny
    rw [h2]
    cases c <;> rfl
  · rfl
theorem valV_at : ∀ {m : List (List Key × V)} {i : Nat} {k : List Key} {v : V}, (m.map (·.1)).Nodup → m[i]? = some (k, v) → valV m k = some v
  | [], _, _, _, _, h => by simp at h
  | (k0, v0) :: m, 0, k, v, nd, h => by
    cases Option.some.inj h
    simp [valV]
  | (k0, v0) :: m, i + 1, k, v, nd, h => by
    have nd' := List.nodup_cons.mp nd
    have h' : m[i]? = some (k, v) := by simpa using h
    have ne : k0 ≠ k := fun e => nd'.1 (List.mem_map.mpr ⟨(k, v), List.mem_of_getElem? h', e.symm⟩)
    have := valV_at nd'.2 h'
    unfold valV at this ⊢
    rw [List.find?_cons_of_neg (by simpa using ne)]
    exact this
theorem leaf_key (k : Key) : leafV (kV k) = true := by cases k <;> rfl
theorem keys_ex {H H1 H2 : Hp} {R : List Key × V → List Key × V → Prop} {j : Nat} (k1 : ∀ b o, H1 b = some o → H b = some o) (k2 : ∀ b o, H2 b = some o → H b = some o) : ∀ {u l : List (List Key × V)} {bs cs : List Addr}, Paired (fun p q => p.1 = q.1 ∧ p.1.length ≤ 1000 ∧ R p q) u l → IsKeys H1 u bs → IsKeys H2 l cs →
    Paired (Ex H (j + 1) []) (bs.map V.ref) (cs.map V.ref)
  | _, _, _, _, .nil, .nil, .nil => .nil
  | _, _, _, _, .cons (a := p) (b := q) h t, .cons h1 t1, .cons h2 t2 => by
    refine .cons (.inr (.inr (.inl ⟨_, _, _, _, rfl, rfl, by simp, by simp, k1 _ _ h1, k2 _ _ h2, ?_, ?_⟩))) (keys_ex k1 k2 t t1 t2)
    · rw [← h.1]
      have go : ∀ ks : List Key, Paired (Ex H j []) (ks.map kV) (ks.map kV) := fun ks => by
        induction ks with
        | nil => exact .nil
        | cons k ks ih => exact .cons (Ex.leaf (leaf_key k)) ih
      exact go _
    · rw [List.length_map]
      exact h.2.1
theorem keys_len {H : Hp} : ∀ {u : List (List Key × V)} {bs : List Addr}, IsKeys H u bs → bs.length = u.length
  | _, _, .nil => rfl
  | _, _, .cons _ t => by rw [List.length_cons, List.length_cons, keys_len t]
theorem paired_at' {α β : Type} {R : α → β → Prop} : ∀ {xs : List α} {ys : List β}, Paired R xs ys → ∀ {i : Nat} {x : α}, xs[i]? = some x → ∃ y, ys[i]? = some y ∧ R x y
  | _, _, .nil, i, x, h => by simp at h
  | _, _, .cons h _, 0, x, hx => by
    cases Option.some.inj hx
    exact ⟨_, rfl, h⟩
  | _, _, .cons _ t, i + 1, x, hx => by
    obtain ⟨y, e, r⟩ := paired_at' t (by simpa using hx)
    exact ⟨y, by simpa using e, r⟩
theorem keys_same {R : List Key × V → List Key × V → Prop} : ∀ {u l : List (List Key × V)}, Paired (fun p q => p.1 = q.1 ∧ R p q) u l → u.map (·.1) = l.map (·.1)
  | _, _, .nil => rfl
  | _, _, .cons h t => by rw [List.map_cons, List.map_cons, h.1, keys_same t]
theorem all_rep (n : Nat) : (List.replicate n true).all id = true := by
  rw [List.all_eq_true]
  intro b h
  rw [(List.mem_replicate.mp h).2] <;> rfl
def spExact (K : PySem.W.Frag) : Nat → Sp
  | 0 => fun _ _ _ _ => False
  | n + 1 => fun vs H Q _ => ∃ (A : List Addr) (x y : V), vs = [x, y] ∧ Ex H n A x y ∧ ∀ H', Same H H' → Q (.bl true) H'
theorem walk_zipT {K : PySem.W.Frag} {a b : Addr} {xs ys : List V} {n : Nat} (hx : n = xs.length) (hy : n = ys.length) : Walk (RZ.ItzT K a b) n (fun H => SqT K H a xs ∧ SqT K H b ys) (YPair (fun i => xs[i]?) (fun i => ys[i]?)) := by
  refine ⟨fun i _ hi q => ⟨xs, ys, xs[i]'(by omega), ys[i]'(by omega), q.1, q.2, List.getElem?_eq_getElem _, List.getElem?_eq_getElem _⟩, fun _ q => ⟨xs, ys, q.1, q.2, .inl (by omega)⟩, ?_⟩
  rintro i H v H' _ q ⟨t, x, z, e1, e2, e3, e4, e5⟩
  exact ⟨t, x, z, e1, e2, e3, e4 xs q.1, e5 ys q.2⟩
theorem paired_get {α β : Type} {R : α → β → Prop} : ∀ {xs : List α} {ys : List β}, Paired R xs ys → ∀ {i : Nat} {x : α} {y : β}, xs[i]? = some x → ys[i]? = some y → R x y
  | _, _, .cons h t, 0, x, y, hx, hy => by
    cases Option.some.inj hx
    cases Option.some.inj hy
    exact h
  | _, _, .cons h t, i + 1, x, y, hx, hy => paired_get t (by simpa using hx) (by simpa using hy)
theorem len_ok {n : Nat} (h : n < 1001) : n < sizeLine := by
  rw [sizeLine_eq]
  omega
section
variable {P : Program} {w : World} {K : PySem.W.Frag} {mg : Str → Option Value} {base : Heap} {f : Addr} {fd : FuncData}
theorem scExact : FnScope ["_law_mine", "_law_theirs", "_law_alike", "_law_a", "_law_b", "_law_key"] ["_law_mine", "_law_theirs"] (defScope sExact) := ⟨rfl, rfl, rfl, by decide +kernel, rfl, by decide +kernel, by decide +kernel⟩
theorem ok_exact (F : FnP K "_law_exact" sExact f fd) (T : Nm mg) (T6 : Nm6 mg) (bE : Binds K fd ["_law_mine", "_law_theirs"] []) (kE : PySem.W.keepIn K (.ref f) = true) (gE : mg "_law_exact" = some (.ref f)) {n : Nat} (GE : FnOk P w K mg base CX0 n f fd ["_law_mine", "_law_theirs"] (spExact K n)) :
    FnOk P w K mg base CX0 (n + 1) f fd ["_law_mine", "_law_theirs"] (spExact K (n + 1)) := by
  refine F.ok scExact (fun vs H Q E h => ?_) (fun cdv A outer s H vs Q E hr h => ?_)
  · obtain ⟨_, x, y, rfl, _⟩ := h
    rfl
  · obtain ⟨B, x, y, rfl, hE, k⟩ := h
    have hu := hu_of hr
    refine ⟨_, PSs.nox (pss_cons (ps_if (pt_val (pe_callB call_isiT (by rfl) T6.isi (by decide +kernel) (pa_cons (pv 0) (pa_cons (pe_tup (pa_cons (pe_bltn (v := .ty "list") (u := .type "list") (by rfl) T6.list (by decide +kernel) rfl) (pa_cons (pe_bltn (v := .ty "tuple") (u := .type "tuple") (by rfl) T6.tuple (by decide +kernel) rfl) pa_nil))) pa_nil))))
        (pss_cons (ps_set (i := 2) scExact.nd rfl (Or.inl rfl) (pe_and (pe_cmpR op_eq (pe_callB call_isi (by rfl) T6.isi (by decide +kernel) (pa_cons (pv 1) (pa_cons (pe_bltn (v := .ty "list") (u := .type "list") (by rfl) T6.list (by decide +kernel) rfl) pa_nil))) (pe_callB call_isi (by rfl) T6.isi (by decide +kernel) (pa_cons (pv 0) (pa_cons (pe_bltn (v := .ty "list") (u := .type "list") (by rfl) T6.list (by decide +kernel) rfl) pa_nil))) (nomark _)) (pe_one (pe_cmpR op_eq (pe_callB call_isi (by rfl) T6.isi (by decide +kernel) (pa_cons (pv 1) (pa_cons (pe_bltn (v := .ty "tuple") (u := .type "tuple") (by rfl) T6.tuple (by decide +kernel) rfl) pa_nil))) (pe_callB call_isi (by rfl) T6.isi (by decide +kernel) (pa_cons (pv 0) (pa_cons (pe_bltn (v := .ty "tuple") (u := .type "tuple") (by rfl) T6.tuple (by decide +kernel) rfl) pa_nil))) (nomark _)))))
        (pss_one (ps_ret (pe_and (pv 2) (pe_and (pe_cmpR op_eq (pe_callB call_len (by rfl) T.len PySem.boot_len (pa_cons (pv 0) pa_nil)) (pe_callB call_len (by rfl) T.len PySem.boot_len (pa_cons (pv 1) pa_nil)) (nomark _)) (pe_one (pe_callB (cr_all rfl) (by rfl) T6.all (by decide +kernel) (pa_cons (pe_lc (own := [("_law_a", 3), ("_law_b", 4)]) (g := gTup K 2 (gCons (gName 3) (gCons (gName 4) gNil))) (tt := tYes) (te := tCall (spExact K n) [] E0 (tCons (tVar 3) (tCons (tVar 4) tNil))) rfl scExact.nd (RZ.pi_zipA rfl T6.zip (pa_cons (pv 0) (pa_cons (pv 1) pa_nil))) (blkOk_by (own := [("_law_a", 3), ("_law_b", 4)]) (N := ["_law_mine", "_law_theirs", "_law_alike", "_law_a", "_law_b", "_law_key"]) (sc := defScope sExact) (by decide +kernel))
          (fun _ _ _ _ _ => pg_tup rfl (pgs_cons (pg_name (i := 3) scExact.nd rfl (Or.inl rfl)) (pgs_cons (pg_name (i := 4) scExact.nd rfl (Or.inl rfl)) pgs_nil))) (fun _ _ _ _ _ => pts_nil) (fun _ _ _ _ _ => pe_call GE hr rfl gE kE bE .nil pass0 (pa_cons (pv 3) (pa_cons (pv 4) pa_nil)))) pa_nil)))))))) pss_nil)
      (pss_cons (ps_if (pt_val (pe_callB call_isi (by rfl) T6.isi (by decide +kernel) (pa_cons (pv 0) (pa_cons (pe_bltn (v := .ty "dict") (u := .type "dict") (by rfl) T6.dict (by decide +kernel) rfl) pa_nil))))
        (pss_cons (ps_set (i := 2) scExact.nd rfl (Or.inl rfl) (pe_and (pe_callB call_isi (by rfl) T6.isi (by decide +kernel) (pa_cons (pv 1) (pa_cons (pe_bltn (v := .ty "dict") (u := .type "dict") (by rfl) T6.dict (by decide +kernel) rfl) pa_nil))) (pe_one (pe_call GE hr rfl gE kE bE .nil pass0 (pa_cons (pe_callTy (call_list_dT rfl) (by rfl) T6.list (by decide +kernel) (pa_cons (pv 0) pa_nil)) (pa_cons (pe_callTy (call_list_dT rfl) (by rfl) T6.list (by decide +kernel) (pa_cons (pv 1) pa_nil)) pa_nil))))))
        (pss_one (ps_ret (pe_and (pv 2) (pe_one (pe_callB (cr_all rfl) (by rfl) T6.all (by decide +kernel) (pa_cons (pe_lock (pe_lc (own := [("_law_key", 5)]) (g := gName 5) (tt := tYes) (te := tCall (spExact K n) [] E0 (tCons (tDGet (tVar 0) (tVar 5)) (tCons (tDGet (tVar 1) (tVar 5)) tNil))) rfl scExact.nd (pi_keys (pv 0)) (blkOk_by (own := [("_law_key", 5)]) (N := ["_law_mine", "_law_theirs", "_law_alike", "_law_a", "_law_b", "_law_key"]) (sc := defScope sExact) (by decide +kernel))
          (fun _ _ _ _ _ => pg_name (i := 5) scExact.nd rfl (Or.inl rfl)) (fun _ _ _ _ _ => pts_nil) (fun _ _ _ _ _ => pe_call GE hr rfl gE kE bE .nil pass0 (pa_cons (pe_dget hu (pv 0) (pv 5) (fun _ _ => rfl)) (pa_cons (pe_dget hu (pv 1) (pv 5) (fun _ _ => rfl)) pa_nil))))) pa_nil))))))) pss_nil)
      (pss_cons (ps_set (i := 2) scExact.nd rfl (Or.inl rfl) (pe_cmpR op_eq (pe_callB call_isi (by rfl) T6.isi (by decide +kernel) (pa_cons (pv 0) (pa_cons (pe_bltn (v := .ty "int") (u := .type "int") (by rfl) T.int (by decide +kernel) rfl) pa_nil))) (pe_callB call_isi (by rfl) T6.isi (by decide +kernel) (pa_cons (pv 1) (pa_cons (pe_bltn (v := .ty "int") (u := .type "int") (by rfl) T.int (by decide +kernel) rfl) pa_nil))) (nomark _)))
      (pss_one (ps_ret (pe_and (pv 2) (pe_and (pe_cmpR op_eq (pe_callB call_isi (by rfl) T6.isi (by decide +kernel) (pa_cons (pv 0) (pa_cons (pe_bltn (v := .ty "bool") (u := .type "bool") (by rfl) T6.bool (by decide +kernel) rfl) pa_nil))) (pe_callB call_isi (by rfl) T6.isi (by decide +kernel) (pa_cons (pv 1) (pa_cons (pe_bltn (v := .ty "bool") (u := .type "bool") (by rfl) T6.bool (by decide +kernel) rfl) pa_nil))) (nomark _)) (pe_one (pe_cmpR op_eq (pv 0) (pv 1) (nomark _)))))))))), ?_⟩
    have cases4 : (x = y ∧ leafV x = true) ∨ ∃ m, n = m + 1 ∧
        ((∃ (a b : Addr) (xs ys : List V), x = .ref a ∧ y = .ref b ∧ a ∉ B ∧ b ∉ B ∧ H a = some (.lst xs) ∧ H b = some (.lst ys) ∧ Paired (Ex H m B) xs ys ∧ xs.length ≤ 1000) ∨
        (∃ (a b : Addr) (xs ys : List V), x = .ref a ∧ y = .ref b ∧ a ∉ B ∧ b ∉ B ∧ H a = some (.tup xs) ∧ H b = some (.tup ys) ∧ Paired (Ex H m B) xs ys ∧ xs.length ≤ 1000) ∨
        (∃ (a b : Addr) (u l : List (List Key × V)), x = .ref a ∧ y = .ref b ∧ a ≠ b ∧ a ∉ B ∧ b ∉ B ∧ H a = some (.dT u) ∧ H b = some (.dT l) ∧ Paired (fun p q => p.1 = q.1 ∧ p.1.length ≤ 1000 ∧ Ex H m (a :: B) p.2 q.2) u l ∧ u.length ≤ 1000 ∧ 2 ≤ m ∧ (u.map (·.1)).Nodup)) := by
      cases n with
      | zero => exact .inl hE
      | succ m => exact hE.imp id fun h => ⟨m, rfl, h⟩
    clear hE
    rcases cases4 with ⟨rfl, hl⟩ | ⟨m, rfl, ⟨a, b, xs, ys, rfl, rfl, h1, h2, h3, h4, h5, h6⟩ | ⟨a, b, xs, ys, rfl, rfl, h1, h2, h3, h4, h5, h6⟩ | ⟨a, b, u, l, rfl, rfl, h0, h1, h2, h3, h4, h5, h6, h7, h8⟩⟩
    · match x, hl with
      | .int z, _ =>
        refine ⟨_, rfl, (by show 2 ≤ sizeLine; decide), fun tp ntp => ⟨_, tp, _, .type "int", [.type "list", .type "tuple"], false, rfl, upd_same, .cons (.ty _) (.cons (.ty _) .nil), .base (.int _), any_lt (b := false) (c := false) (kit_ty (by decide +kernel)) (kit_ty (by decide +kernel)) rfl, _, rfl, ?_⟩⟩
        refine iteF ?_
        refine ⟨_, rfl, _, _, .type "int", _, false, rfl, .ty _, .base (.int _), kit_ty (by decide +kernel), _, rfl, ?_⟩
        refine iteF ?_
        refine ⟨_, rfl, _, _, .type "int", _, true, rfl, .ty _, .base (.int _), kit_ty (by decide +kernel), _, rfl, _, _, .type "int", _, true, rfl, .ty _, .base (.int _), kit_ty (by decide +kernel), rfl, ?_⟩
        refine ⟨_, rfl, true, rfl, ?_⟩
        refine iteT ?_
        refine ⟨_, rfl, _, _, .type "int", _, false, rfl, .ty _, .base (.int _), kit_ty (by decide +kernel), _, rfl, _, _, .type "int", _, false, rfl, .ty _, .base (.int _), kit_ty (by decide +kernel), rfl, true, rfl, ?_⟩
        refine iteT ?_
        refine ⟨_, rfl, _, rfl, rfl, ?_⟩
        rw [bl_self]
        exact k _ (same_new ntp)
      | .bl z, _ =>
        refine ⟨_, rfl, (by show 2 ≤ sizeLine; decide), fun tp ntp => ⟨_, tp, _, .type "bool", [.type "list", .type "tuple"], false, rfl, upd_same, .cons (.ty _) (.cons (.ty _) .nil), .base (.bl _), any_lt (b := false) (c := false) (kit_ty (by decide +kernel)) (kit_ty (by decide +kernel)) rfl, _, rfl, ?_⟩⟩
        refine iteF ?_
        refine ⟨_, rfl, _, _, .type "bool", _, false, rfl, .ty _, .base (.bl _), kit_ty (by decide +kernel), _, rfl, ?_⟩
        refine iteF ?_
        refine ⟨_, rfl, _, _, .type "bool", _, true, rfl, .ty _, .base (.bl _), kit_ty (by decide +kernel), _, rfl, _, _, .type "bool", _, true, rfl, .ty _, .base (.bl _), kit_ty (by decide +kernel), rfl, ?_⟩
        refine ⟨_, rfl, true, rfl, ?_⟩
        refine iteT ?_
        refine ⟨_, rfl, _, _, .type "bool", _, true, rfl, .ty _, .base (.bl _), kit_ty (by decide +kernel), _, rfl, _, _, .type "bool", _, true, rfl, .ty _, .base (.bl _), kit_ty (by decide +kernel), rfl, true, rfl, ?_⟩
        refine iteT ?_
        refine ⟨_, rfl, _, rfl, rfl, ?_⟩
        rw [bl_self]
        exact k _ (same_new ntp)
      | .str z, _ =>
        refine ⟨_, rfl, (by show 2 ≤ sizeLine; decide), fun tp ntp => ⟨_, tp, _, .type "str", [.type "list", .type "tuple"], false, rfl, upd_same, .cons (.ty _) (.cons (.ty _) .nil), .base (.str _), any_lt (b := false) (c := false) (kit_ty (by decide +kernel)) (kit_ty (by decide +kernel)) rfl, _, rfl, ?_⟩⟩
        refine iteF ?_
        refine ⟨_, rfl, _, _, .type "str", _, false, rfl, .ty _, .base (.str _), kit_ty (by decide +kernel), _, rfl, ?_⟩
        refine iteF ?_
        refine ⟨_, rfl, _, _, .type "str", _, false, rfl, .ty _, .base (.str _), kit_ty (by decide +kernel), _, rfl, _, _, .type "str", _, false, rfl, .ty _, .base (.str _), kit_ty (by decide +kernel), rfl, ?_⟩
        refine ⟨_, rfl, true, rfl, ?_⟩
        refine iteT ?_
        refine ⟨_, rfl, _, _, .type "str", _, false, rfl, .ty _, .base (.str _), kit_ty (by decide +kernel), _, rfl, _, _, .type "str", _, false, rfl, .ty _, .base (.str _), kit_ty (by decide +kernel), rfl, true, rfl, ?_⟩
        refine iteT ?_
        refine ⟨_, rfl, _, rfl, rfl, ?_⟩
        rw [bl_self]
        exact k _ (same_new ntp)
      | .non, _ =>
        refine ⟨_, rfl, (by show 2 ≤ sizeLine; decide), fun tp ntp => ⟨_, tp, _, .type "NoneType", [.type "list", .type "tuple"], false, rfl, upd_same, .cons (.ty _) (.cons (.ty _) .nil), .base (.non), any_lt (b := false) (c := false) (kit_ty (by decide +kernel)) (kit_ty (by decide +kernel)) rfl, _, rfl, ?_⟩⟩
        refine iteF ?_
        refine ⟨_, rfl, _, _, .type "NoneType", _, false, rfl, .ty _, .base (.non), kit_ty (by decide +kernel), _, rfl, ?_⟩
        refine iteF ?_
        refine ⟨_, rfl, _, _, .type "NoneType", _, false, rfl, .ty _, .base (.non), kit_ty (by decide +kernel), _, rfl, _, _, .type "NoneType", _, false, rfl, .ty _, .base (.non), kit_ty (by decide +kernel), rfl, ?_⟩
        refine ⟨_, rfl, true, rfl, ?_⟩
        refine iteT ?_
        refine ⟨_, rfl, _, _, .type "NoneType", _, false, rfl, .ty _, .base (.non), kit_ty (by decide +kernel), _, rfl, _, _, .type "NoneType", _, false, rfl, .ty _, .base (.non), kit_ty (by decide +kernel), rfl, true, rfl, ?_⟩
        refine iteT ?_
        refine ⟨_, rfl, _, rfl, rfl, ?_⟩
        rw [bl_self]
        exact k _ (same_new ntp)
    · have hlen : xs.length = ys.length := Paired.length h5
      refine ⟨_, rfl, (by show 2 ≤ sizeLine; decide), fun tp ntp => ?_⟩
      have t3 := same_new (o := .tup [.ty "list", .ty "tuple"]) ntp _ _ h3
      have t4 := same_new (o := .tup [.ty "list", .ty "tuple"]) ntp _ _ h4
      refine ⟨_, tp, _, .type "list", [.type "list", .type "tuple"], true, rfl, upd_same, .cons (.ty _) (.cons (.ty _) .nil), .base (.lst t3), any_lt (b := true) (c := false) (kit_ty (by decide +kernel)) (kit_ty (by decide +kernel)) rfl, _, rfl, ?_⟩
      refine iteT ?_
      refine ⟨_, rfl, _, _, .type "list", _, true, rfl, .ty _, .base (.lst t4), kit_ty (by decide +kernel), _, rfl, _, _, .type "list", _, true, rfl, .ty _, .base (.lst t3), kit_ty (by decide +kernel), rfl, true, rfl, ?_⟩
      refine iteT ?_
      refine ⟨_, rfl, _, _, .type "list", _, false, rfl, .ty _, .base (.lst t4), kit_ty (by decide +kernel), _, rfl, _, _, .type "list", _, false, rfl, .ty _, .base (.lst t3), kit_ty (by decide +kernel), rfl, ?_⟩
      refine ⟨_, rfl, true, rfl, ?_⟩
      refine iteT ?_
      refine ⟨_, rfl, _, xs.length, rfl, Or.inl ⟨_, SqL.of t3, rfl⟩, _, rfl, _, ys.length, rfl, Or.inl ⟨_, SqL.of t4, rfl⟩, rfl, true, by rw [hlen]; exact bl_self _, ?_⟩
      refine iteT ?_
      refine ⟨_, rfl, _, rfl, a, b, xs, ys, rfl, .inl ⟨SqL.of t3, SqL.of t4, fun D hD => ?_⟩⟩
      refine lc_it (walk_zip (xs := xs) (ys := ys) (n := xs.length) (by omega)) (fun i H3 => H3 D = some (.lst ((List.replicate i true).map V.bl)) ∧ Same (upd H tp (.tup [.ty "list", .ty "tuple"])) H3) ?_ ?_ ?_ ?_
      · exact ⟨upd_same, same_new hD⟩
      · rintro i H3 hi ⟨q5, s5⟩
        exact ⟨SqL.of (s5 _ _ t3), SqL.of (s5 _ _ t4)⟩
      · rintro i v H3 H4 hi ⟨q5, s5⟩ ⟨t, x, y, rfl, nt, rfl, ex, ey⟩
        refine ⟨t, [x, y], rfl, SqT.of upd_same, rfl, _, _, rfl, _, _, rfl, rfl, rfl, ?_⟩
        refine ⟨_, rfl, _, rfl, B, x, y, rfl, (paired_get h5 ex ey).to (fun c o _ e => same_new nt _ _ (s5 _ _ (same_new ntp _ _ e))), fun H5 s6 => ?_⟩
        have q6 := s6 _ _ (same_new nt _ _ q5)
        refine ⟨_, q6, ?_, ?_, fun c o e => ?_⟩
        · rw [List.length_map, List.length_replicate]
          exact len_ok (by omega)
        · rw [upd_same, List.replicate_succ', List.map_append]
          rfl
        · rw [upd_ne (ne_of_none e hD)]
          exact s6 _ _ (same_new nt _ _ (s5 _ _ e))
      · rintro H3 ⟨q5, s5⟩
        refine ⟨D, List.replicate xs.length true, rfl, SqL.of q5, ?_⟩
        rw [all_rep]
        exact k _ fun c o e => s5 _ _ (same_new ntp _ _ e)
    · have hlen : xs.length = ys.length := Paired.length h5
      refine ⟨_, rfl, (by show 2 ≤ sizeLine; decide), fun tp ntp => ?_⟩
      have t3 := same_new (o := .tup [.ty "list", .ty "tuple"]) ntp _ _ h3
      have t4 := same_new (o := .tup [.ty "list", .ty "tuple"]) ntp _ _ h4
      refine ⟨_, tp, _, .type "tuple", [.type "list", .type "tuple"], true, rfl, upd_same, .cons (.ty _) (.cons (.ty _) .nil), .base (.tup t3), any_lt (b := false) (c := true) (kit_ty (by decide +kernel)) (kit_ty (by decide +kernel)) rfl, _, rfl, ?_⟩
      refine iteT ?_
      refine ⟨_, rfl, _, _, .type "tuple", _, false, rfl, .ty _, .base (.tup t4), kit_ty (by decide +kernel), _, rfl, _, _, .type "tuple", _, false, rfl, .ty _, .base (.tup t3), kit_ty (by decide +kernel), rfl, true, rfl, ?_⟩
      refine iteT ?_
      refine ⟨_, rfl, _, _, .type "tuple", _, true, rfl, .ty _, .base (.tup t4), kit_ty (by decide +kernel), _, rfl, _, _, .type "tuple", _, true, rfl, .ty _, .base (.tup t3), kit_ty (by decide +kernel), rfl, ?_⟩
      refine ⟨_, rfl, true, rfl, ?_⟩
      refine iteT ?_
      refine ⟨_, rfl, _, xs.length, rfl, Or.inr ⟨_, SqT.of t3, rfl⟩, _, rfl, _, ys.length, rfl, Or.inr ⟨_, SqT.of t4, rfl⟩, rfl, true, by rw [hlen]; exact bl_self _, ?_⟩
      refine iteT ?_
      refine ⟨_, rfl, _, rfl, a, b, xs, ys, rfl, .inr ⟨SqT.of t3, SqT.of t4, fun D hD => ?_⟩⟩
      refine lc_it (walk_zipT (xs := xs) (ys := ys) (n := xs.length) rfl hlen) (fun i H3 => H3 D = some (.lst ((List.replicate i true).map V.bl)) ∧ Same (upd H tp (.tup [.ty "list", .ty "tuple"])) H3) ?_ ?_ ?_ ?_
      · exact ⟨upd_same, same_new hD⟩
      · rintro i H3 hi ⟨q5, s5⟩
        exact ⟨SqT.of (s5 _ _ t3), SqT.of (s5 _ _ t4)⟩
      · rintro i v H3 H4 hi ⟨q5, s5⟩ ⟨t, x, y, rfl, nt, rfl, ex, ey⟩
        refine ⟨t, [x, y], rfl, SqT.of upd_same, rfl, _, _, rfl, _, _, rfl, rfl, rfl, ?_⟩
        refine ⟨_, rfl, _, rfl, B, x, y, rfl, (paired_get h5 ex ey).to (fun c o _ e => same_new nt _ _ (s5 _ _ (same_new ntp _ _ e))), fun H5 s6 => ?_⟩
        have q6 := s6 _ _ (same_new nt _ _ q5)
        refine ⟨_, q6, ?_, ?_, fun c o e => ?_⟩
        · rw [List.length_map, List.length_replicate]
          exact len_ok (by omega)
        · rw [upd_same, List.replicate_succ', List.map_append]
          rfl
        · rw [upd_ne (ne_of_none e hD)]
          exact s6 _ _ (same_new nt _ _ (s5 _ _ e))
      · rintro H3 ⟨q5, s5⟩
        refine ⟨D, List.replicate xs.length true, rfl, SqL.of q5, ?_⟩
        rw [all_rep]
        exact k _ fun c o e => s5 _ _ (same_new ntp _ _ e)
    · refine ⟨_, rfl, (by show 2 ≤ sizeLine; decide), fun tp ntp => ?_⟩
      have s0 := same_new (o := .tup [.ty "list", .ty "tuple"]) ntp
      have t3 := s0 _ _ h3
      have t4 := s0 _ _ h4
      refine ⟨_, tp, _, .type "dict", [.type "list", .type "tuple"], false, rfl, upd_same, .cons (.ty _) (.cons (.ty _) .nil), .base (.dT t3), any_lt (b := false) (c := false) (kit_ty (by decide +kernel)) (kit_ty (by decide +kernel)) rfl, _, rfl, ?_⟩
      refine iteF ?_
      refine ⟨_, rfl, _, _, .type "dict", _, true, rfl, .ty _, .base (.dT t3), kit_ty (by decide +kernel), _, rfl, ?_⟩
      refine iteT ?_
      refine ⟨_, rfl, _, _, .type "dict", _, true, rfl, .ty _, .base (.dT t4), kit_ty (by decide +kernel), true, rfl, ?_⟩
      refine iteT ?_
      refine ⟨_, rfl, a, u, rfl, .inl t3, fun p1 bs n1 k1 => ⟨_, rfl, b, l, rfl, .inl (same_new n1 _ _ t4), fun p2 cs n2 k2 => ?_⟩⟩
      have s1 := same_new (o := .lst (bs.map V.ref)) n1
      have s2 := same_new (o := .lst (cs.map V.ref)) n2
      obtain ⟨j, rfl⟩ : ∃ j, m = j + 2 := ⟨m - 2, by omega⟩
      refine ⟨[], _, _, rfl, .inr (.inl ⟨p1, p2, bs.map V.ref, cs.map V.ref, rfl, rfl, by simp, by simp, s2 _ _ upd_same, upd_same, keys_ex (fun c o e => s2 _ _ (s1 _ _ e)) (fun c o e => s2 _ _ e) h5 k1 k2, by rw [List.length_map, keys_len k1]; exact h6⟩), fun H5 s5 => ?_⟩
      have sA : ∀ c o, H c = some o → H5 c = some o := fun c o e => s5 _ _ (s2 _ _ (s1 _ _ (s0 _ _ e)))
      clear s5 s2 s1 n2 n1 k1 k2 t3 t4 s0
      refine ⟨_, rfl, true, rfl, ?_⟩
      refine iteT ?_
      refine ⟨a, .dT u, sA _ _ h3, trivial, fun od => ?_⟩
      refine ⟨_, rfl, a, od, rfl, .inr ⟨u, upd_same, fun D hD => ?_⟩⟩
      have nDa : D ≠ a := fun z => by
        rw [z, upd_same] at hD
        cases hD
      refine lc_it (walk_keysT (d := a) (o := od) (kvs := u)) (fun i H6 => H6 D = some (.lst ((List.replicate i true).map V.bl)) ∧ Same (upd H5 a (.frz od (.dT u))) H6) ?_ ?_ ?_ ?_
      · exact ⟨upd_same, same_new hD⟩
      · rintro i H6 hi ⟨q6, s6⟩
        exact s6 _ _ upd_same
      · rintro i v H6 H7 hi ⟨q6, s6⟩ ⟨rfl, kk, vv, q, ei, rfl, eq⟩
        obtain ⟨⟨kk2, ww⟩, el, hk, _, hx⟩ := paired_at' h5 ei
        cases hk
        have g1 : valV u kk = some vv := valV_at h8 ei
        have g2 : valV l kk = some ww := valV_at (by rw [← keys_same h5]; exact h8) el
        have hb6 : H7 b = some (.dT l) := s6 _ _ ((upd_ne h0.symm).trans (sA _ _ h4))
        refine ⟨rfl, ?_⟩
        refine ⟨_, rfl, _, rfl, a, vv, rfl, .inr ⟨u, kk, q, .inr ⟨od, s6 _ _ upd_same⟩, rfl, eq, g1.symm⟩, _, rfl, _, rfl, b, ww, rfl, .inr ⟨l, kk, q, .inl hb6, rfl, eq, g2.symm⟩, a :: B, vv, ww, rfl, hx.to (fun c o hc e => ?_), fun H8 s8 => ?_⟩
        · exact s6 _ _ ((upd_ne (fun z => hc (by rw [z]; exact List.mem_cons_self))).trans (sA _ _ e))
        · have q8 := s8 _ _ q6
          refine ⟨_, q8, ?_, ?_, fun c o e => ?_⟩
          · rw [List.length_map, List.length_replicate]
            exact len_ok (by omega)
          · rw [upd_same, List.replicate_succ', List.map_append]
            rfl
          · rw [upd_ne (ne_of_none e hD)]
            exact s8 _ _ (s6 _ _ e)
      · rintro H6 ⟨q6, s6⟩
        refine ⟨s6 _ _ upd_same, D, List.replicate u.length true, rfl, SqL.of ((upd_ne nDa).trans q6), ?_⟩
        rw [all_rep]
        refine k _ fun c o e => ?_
        by_cases ca : c = a
        · rw [ca] at e ⊢
          rw [h3] at e
          cases e
          exact upd_same
        · exact (upd_ne ca).trans (s6 _ _ ((upd_ne ca).trans (sA _ _ e)))
theorem exact_all (F : FnP K "_law_exact" sExact f fd) (T : Nm mg) (T6 : Nm6 mg) (bE : Binds K fd ["_law_mine", "_law_theirs"] []) (kE : PySem.W.keepIn K (.ref f) = true) (gE : mg "_law_exact" = some (.ref f)) : ∀ n : Nat, FnOk P w K mg base CX0 n f fd ["_law_mine", "_law_theirs"] (spExact K n)
  | 0 => ⟨fun _ _ _ _ h => h.elim, fun _ _ _ _ _ _ _ _ _ _ _ _ _ h => h.elim⟩
  | n + 1 => ok_exact F T T6 bE kE gE (exact_all F T T6 bE kE gE n)
end
end Yt

set_option Elab.async false
set_option linter.all false
set_option maxRecDepth 100000
set_option maxHeartbeats 2000000
namespace Yt
open PySem PySem.Spec PyProof.Rows L2
/-! ### list(z), z a text -/
def signsOf (z : Str) : List V := z.cps.toList.map fun c => V.str ⟨#[c]⟩
theorem vals_get : ∀ {l : List V} {its : List Value}, l.length = its.length → (∀ (j : Nat) (x : V) (v : Value), l[j]? = some x → its[j]? = some v → RelV x v) → Vals l its
  | [], [], _, _ => .nil
  | x :: l, v :: its, h, k => .cons (k 0 x v rfl rfl) (vals_get (by simpa using h) fun j y u hy hu => k (j + 1) y u (by simpa using hy) (by simpa using hu))
theorem call_list_text {X : Cx} (calm : X.calm = true) : CallR X (.type "list") (fun xs H Q => ∃ z : Str, xs = [.str z] ∧ z.cps.size ≤ 1000 ∧ ∀ l, H l = none → Q (.ref l) (upd H l (.lst (signsOf z)))) := by
  intro pins s σ H xs us Q I r h
  obtain ⟨z, rfl, few, q⟩ := h
  obtain ⟨u, rfl, rx⟩ := vals1 r
  obtain ⟨t, rfl⟩ := rx
  have hz : z.cps.size ≤ sizeLine := by
    rw [sizeLine_eq]
    omega
  refine PySem.call_list_str (I.ok.hd calm) z t (fun h2 tk acc c keep ho items => ?_) hz
  have len : (signsOf z).length = acc.toList.length := by
    unfold signsOf
    rw [List.length_map, Array.length_toList, Array.length_toList, items.1]
  have vals : Vals (signsOf z) acc.toList := vals_get len fun j x v hx hv => by
    obtain ⟨d, t2, e1, e2⟩ := items.2 j v (by rw [← Array.getElem?_toList]; exact hv)
    unfold signsOf at hx
    rw [List.getElem?_map, Array.getElem?_toList, e1] at hx
    cases Option.some.inj hx
    exact ⟨t2, e2⟩
  refine ⟨.ref s.heap.objs.size, _, I.laid (t' := tk) keep (Nat.le_refl _) (show ObjOk X.prog X.w _ h2 _ (.lst (signsOf z)) from ⟨?_, acc.toList, c, vals, ?_⟩), rfl, q _ (I.hok.fresh (Nat.le_refl _))⟩
  · unfold signsOf
    rw [List.length_map, Array.length_toList]
    exact hz
  · simpa using ho
end Yt

set_option Elab.async false
set_option linter.all false
set_option maxRecDepth 100000
set_option maxHeartbeats 2000000
namespace Yt
open PySem PySem.Spec PyProof.Rows L2
/-! ### words one beside the other -/
theorem str_tl (i j : Str) : (i ++ j).cps.toList = i.cps.toList ++ j.cps.toList := Array.toList_append
theorem nodup_le {α : Type} [DecidableEq α] : ∀ {l D : List α}, l.Nodup → (∀ x ∈ l, x ∈ D) → l.length ≤ D.length
  | [], _, _, _ => Nat.zero_le _
  | x :: l, D, nd, h => by
    have nd' := List.nodup_cons.mp nd
    have hx : x ∈ D := h x List.mem_cons_self
    have := nodup_le (l := l) (D := D.erase x) nd'.2 fun y hy => (List.mem_erase_of_ne (fun (e : y = x) => nd'.1 (by rw [← e]; exact hy))).mpr (h y (List.mem_cons_of_mem _ hy))
    rw [List.length_erase_of_mem hx] at this
    have := List.length_pos_of_mem hx
    rw [List.length_cons]
    omega
/-- a word with one sign changed is a word -/
theorem word_bent {z : Str} {c : Nat} {s : Int} (h : WordOk z) (hc : 97 ≤ c ∧ c ≤ 122) (s0 : 0 ≤ s) (s1 : s < z.length) : WordOk (cutS z none (some s) ++ (⟨#[c]⟩ : Str) ++ cutS z (some (s + 1)) none) := by
  obtain ⟨k, rfl⟩ : ∃ k : Nat, s = k := ⟨s.toNat, (Int.toNat_of_nonneg s0).symm⟩
  have hk : k < z.length := by omega
  have e1 : HT.sIx z.length z.length (some (k : Int)) = k := by
    rw [HT.sIx_nat]
    omega
  have e2 : HT.sIx z.length 0 (some ((k : Int) + 1)) = k + 1 := by
    rw [show ((k : Int) + 1) = ((k + 1 : Nat) : Int) by omega, HT.sIx_nat]
    omega
  have t1 : (cutS z none (some (k : Int))).cps.toList = z.cps.toList.take k := by
    unfold cutS
    rw [e1, HT.sIx_none]
    simp
  have t2 : (cutS z (some ((k : Int) + 1)) none).cps.toList = z.cps.toList.drop (k + 1) := by
    unfold cutS
    rw [e2, HT.sIx_none]
    show (z.cps.toList.drop (k + 1)).take (z.cps.size - (k + 1)) = _
    rw [List.take_of_length_le]
    rw [List.length_drop, Array.length_toList]
    exact Nat.le_refl _
  have tt : (cutS z none (some (k : Int)) ++ (⟨#[c]⟩ : Str) ++ cutS z (some ((k : Int) + 1)) none).cps.toList = z.cps.toList.take k ++ [c] ++ z.cps.toList.drop (k + 1) := by
    rw [str_tl, str_tl, t1, t2]
  have len : (cutS z none (some (k : Int)) ++ (⟨#[c]⟩ : Str) ++ cutS z (some ((k : Int) + 1)) none).length = z.length := by
    show (_ : Array Nat).size = z.cps.size
    rw [← Array.length_toList, tt]
    have hk' : k < z.cps.size := hk
    simp only [List.length_append, List.length_take, List.length_drop, Array.length_toList, List.length_cons, List.length_nil]
    omega
  refine ⟨by rw [len]; exact h.1, fun d hd => ?_⟩
  rw [tt] at hd
  rcases List.mem_append.mp hd with hd | hd
  · rcases List.mem_append.mp hd with hd | hd
    · exact h.2 d (List.mem_of_mem_take hd)
    · rw [List.mem_singleton.mp hd]
      exact hc
  · exact h.2 d (List.mem_of_mem_drop hd)
def sign (c : Nat) : Str := ⟨#[c]⟩
theorem sign_word {c : Nat} (h : 97 ≤ c ∧ c ≤ 122) : WordOk (sign c) := ⟨⟨Nat.le_refl _, by show 1 ≤ 8; decide⟩, fun d hd => by
  have : d ∈ [c] := hd
  rw [List.mem_singleton.mp this]
  exact h⟩
theorem sign_inj {c d : Nat} (h : sign c = sign d) : c = d := by
  have : #[c] = #[d] := congrArg Str.cps h
  simpa using this
/-- some letter is free -/
theorem letter_free {ws : List Str} (h : ws.length < 26) : ∃ c ∈ abc.cps.toList, sign c ∉ ws := by
  by_cases e : ∃ c ∈ abc.cps.toList, sign c ∉ ws
  · exact e
  · exfalso
    have all : ∀ x ∈ abc.cps.toList.map sign, x ∈ ws := fun x hx => by
      obtain ⟨c, hc, rfl⟩ := List.mem_map.mp hx
      by_cases q : sign c ∈ ws
      · exact q
      · exact absurd ⟨c, hc, q⟩ e
    have nd : (abc.cps.toList.map sign).Nodup := by decide +kernel
    have := nodup_le nd all
    rw [List.length_map] at this
    have l26 : abc.cps.toList.length = 26 := by decide +kernel
    omega
theorem inV_str (z : Str) : ∀ ws : List Str, inV (.str z) (ws.map V.str) = decide (z ∈ ws)
  | [] => by simp [inV]
  | y :: ws => by
    have := inV_str z ws
    unfold inV at this ⊢
    rw [List.map_cons, List.any_cons, this]
    show ((y == z) || _) = _
    by_cases e : y = z
    · subst e
      simp
    · have e' : ¬ z = y := fun q => e q.symm
      simp [e, e']
theorem flat_strs' (ys : List Str) : (ys.map V.str).all flatV = true := by
  rw [List.all_map]
  exact List.all_eq_true.mpr fun _ _ => rfl
def spWords : Sp := fun vs H Q _ => ∃ (p : Addr) (f : Nat) (m : Int), vs = [.ref p, .int m] ∧ 1 ≤ m ∧ m ≤ 20 ∧ PurseAt H p (f + 12 + 11 * m.toNat) ∧
  ∀ (L : Addr) (ws : List Str) (H' : Hp), ws.length = m.toNat → ws.Nodup → (∀ z ∈ ws, WordOk z) → H L = none → H' L = some (.lst (ws.map V.str)) → PurseAt H' p f → But p H H' → Q (.ref L) H'
section
variable {P : Program} {w : World} {K : PySem.W.Frag} {mg : Str → Option Value} {base : Heap} {f : Addr} {fd : FuncData}
theorem scWords : FnScope ["_law_purse_here", "_law_many", "_law_base", "_law_near", "_law_spot", "_law_found", "_law_spin", "_law_word_here", "_law_letter"] ["_law_purse_here", "_law_many"] (defScope sWords) := ⟨rfl, rfl, rfl, by decide +kernel, rfl, by decide +kernel, by decide +kernel⟩
theorem ok_words {fD fW : Addr} {fdD fdW : FuncData} (F : FnP K "_law_words" sWords f fd) (T : Nm mg) (T6 : Nm6 mg) (GD : FnOk P w K mg base CX0 2 fD fdD ["_law_purse_here", "_law_many"] spDraw) (bD : Binds K fdD ["_law_purse_here", "_law_many"] []) (kD : PySem.W.keepIn K (.ref fD) = true) (gD : mg "_law_draw" = some (.ref fD))
    (GW : FnOk P w K mg base CX0 3 fW fdW ["_law_purse_here"] spWord) (bW : Binds K fdW ["_law_purse_here"] []) (kW : PySem.W.keepIn K (.ref fW) = true) (gW : mg "_law_word" = some (.ref fW)) :
    FnOk P w K mg base CX0 4 f fd ["_law_purse_here", "_law_many"] spWords := by
  refine F.ok scWords (fun vs H Q E h => ?_) (fun cdv A outer s H vs Q E hr h => ?_)
  · obtain ⟨p, g, m, rfl, _⟩ := h
    rfl
  · obtain ⟨p, g, m, rfl, m1, m2, hP, k⟩ := h
    refine ⟨_, PSs.nox (pss_cons (ps_par (i := 2) (j := 3) rfl scWords.nd rfl rfl (by decide) rfl rfl (pa_cons (pe_call GW hr rfl gW kW bW .nil pass0 (pa_cons (pv 0) pa_nil)) (pa_cons (pe_cmpR op_eq (pe_call GD (hr.mono (by decide)) rfl gD kD bD .nil pass0 (pa_cons (pv 0) (pa_cons pe_int pa_nil))) pe_int (nomark _)) pa_nil)) rfl)
      (pss_cons (ps_asg (pe_tup (pa_cons (pe_call GD (hr.mono (by decide)) rfl gD kD bD .nil pass0 (pa_cons (pv 0) (pa_cons (pe_callB call_len (by rfl) T.len PySem.boot_len (pa_cons (pv 2) pa_nil)) pa_nil))) (pa_cons (pe_lst pa_nil) pa_nil))) (pg_tup rfl (pgs_cons (pg_name (i := 4) scWords.nd rfl (Or.inl rfl)) (pgs_cons (pg_name (i := 5) scWords.nd rfl (Or.inr rfl)) pgs_nil))))
      (pss_cons (ps_for PassesOwn.never rfl (pi_range1 rfl T.range (pa_cons (pv 1) pa_nil)) (pg_name (i := 6) scWords.nd rfl (Or.inl rfl))
        (pss_cons (ps_set (i := 7) scWords.nd rfl (Or.inl rfl) (pe_op op_add_str (pe_op op_add_str (pe_slice sl_str (pv 2) po_none (po_some (pv 4))) (pe_ix ix_str pe_str (pe_call GD (hr.mono (by decide)) rfl gD kD bD .nil pass0 (pa_cons (pv 0) (pa_cons pe_int pa_nil))) (fun _ _ => rfl))) (pe_slice sl_str (pv 2) (po_some (pe_op op_add (pv 4) pe_int)) po_none)))
        (pss_cons (ps_if (pt_not (pt_val (pv 3))) (pss_one (ps_set (i := 7) scWords.nd rfl (Or.inl rfl) (pe_call GW hr rfl gW kW bW .nil pass0 (pa_cons (pv 0) pa_nil)))) pss_nil)
        (pss_cons (ps_if (pt_cmpR op_in_seq (pv 7) (pv 5) (by rfl)) (pss_one (ps_set (i := 7) scWords.nd rfl (Or.inl rfl) (pe_ix ix_list (pe_lc (own := [("_law_letter", 8)]) (g := gName 8) (tt := tTest (tOp (rIn K true) (tVar 8) (tVar 5))) (te := tVar 8) rfl scWords.nd (pi_list (pe_callTy (call_list_text rfl) (by rfl) T6.list (by decide +kernel) (pa_cons pe_str pa_nil))) (blkOk_by (own := [("_law_letter", 8)]) (N := ["_law_purse_here", "_law_many", "_law_base", "_law_near", "_law_spot", "_law_found", "_law_spin", "_law_word_here", "_law_letter"]) (sc := defScope sWords) (by decide +kernel))
            (fun _ _ _ _ _ => pg_name (i := 8) scWords.nd rfl (Or.inl rfl)) (fun _ _ _ _ _ => pts_one (pt_cmpR op_notIn_seq (pv 8) (pv 5) (by rfl))) (fun _ _ _ _ _ => pv 8)) pe_int (fun _ _ => rfl)))) pss_nil)
        (pss_one (ps_expr (pe_bm PySem.F.plainAttrs_list PySem.F.slot_list_append PySem.F.type_list_append mt_append (pv 5) (pa_cons (pv 7) pa_nil))))))))
      (pss_one (ps_ret (pv 5)))))), ?_⟩
    refine ⟨_, rfl, p, g + 2 + 11 * m.toNat, rfl, hP.less (by omega), fun z H1 hz hP1 hB1 => ⟨_, rfl, p, g + 1 + 11 * m.toNat, 3, rfl, hP1.less (by omega), ⟨by decide, by decide⟩, fun r H2 r0 r1 hP2 hB2 => ⟨rfl, _, _, rfl, ?_⟩⟩⟩
    have zl : z.length ≤ sizeLine := by
      have := hz.1
      rw [sizeLine_eq]
      omega
    refine ⟨_, rfl, _, rfl, _, z.length, rfl, ⟨zl, rfl⟩, p, g + 11 * m.toNat, (z.length : Int), rfl, hP2.less (by omega), ⟨by have := hz.1; omega, by have := hz.1; omega⟩, fun s0 H3 s1 s2 hP3 hB3 => ⟨(by show 0 ≤ sizeLine; decide), fun L nL => ⟨(by show 2 ≤ sizeLine; decide), fun tp ntp => ⟨tp, _, rfl, SqT.of upd_same, rfl, _, _, rfl, _, _, rfl, rfl, ?_⟩⟩⟩⟩
    generalize hnear : decide (V.int r = V.int 0) = near
    have B3 : But p H H3 := fun b o n e => hB3 _ _ n (hB2 _ _ n (hB1 _ _ n e))
    have Lp : L ≠ p := fun q => by
      obtain ⟨o, e⟩ := hP3.some
      rw [q, e] at nL
      cases nL
    have LH : H L = none := by
      cases e : H L with
      | none => rfl
      | some o =>
        rw [B3 _ _ Lp e] at nL
        cases nL
    have sL := same_new (o := .lst []) nL
    have sT := same_new (o := .tup [V.int s0, V.ref L]) ntp
    refine ⟨_, rfl, _, rfl, by omega, by omega, for_range (lo := 0) (n := m.toNat) (fun i σ Hc => ∃ (v6 v7 v8 : Option V) (ws : List Str), σ = [some (.ref p), some (.int m), some (.str z), some (.bl near), some (.int s0), some (.ref L), v6, v7, v8] ∧ ws.length = i ∧ ws.Nodup ∧ (∀ y ∈ ws, WordOk y) ∧ Hc L = some (.lst (ws.map V.str)) ∧ PurseAt Hc p (g + 11 * (m.toNat - i)) ∧ But p H Hc)
      ⟨none, none, none, [], rfl, rfl, .nil, fun y hy => (by cases hy), sT _ _ upd_same, ?_, fun b o n e => sT _ _ (sL _ _ (B3 b o n e))⟩ ?_ ?_⟩
    · rw [Nat.sub_zero]
      exact hP3.to fun o e => sT _ _ (sL _ _ e)
    · rintro i σ Hc hi ⟨v6, v7, v8, ws, rfl, hl, hnd, hws, Lc, Pc, Bc⟩
      have ef : g + 11 * (m.toNat - i) = g + 11 * (m.toNat - (i + 1)) + 11 := by omega
      rw [ef] at Pc
      refine ⟨_, rfl, _, rfl, _, rfl, z, rfl, zl, _, rfl, p, g + 11 * (m.toNat - (i + 1)) + 10, 26, rfl, Pc.less (by omega), ⟨by decide, by decide⟩, fun r3 H4 r30 r31 hP4 hB4 => ?_⟩
      obtain ⟨c, hc, hc1⟩ := abc_at r30 r31
      have lz := hz.1
      have cz := cutS_length z none (some s0)
      have cz2 := cutS_length z (some (s0 + 1)) none
      refine ⟨_, _, c, rfl, rfl, (by show 26 ≤ sizeLine; decide), hc, _, _, rfl, rfl, ?_, _, rfl, _, rfl, _, _, rfl, rfl, _, rfl, z, rfl, zl, _, _, rfl, rfl, ?_, ?_⟩
      · show (cutS z none (some s0)).length + 1 ≤ sizeLine
        rw [sizeLine_eq]
        omega
      · show (cutS z none (some s0) ++ (⟨#[c]⟩ : Str)).length + (cutS z (some (s0 + 1)) none).length ≤ sizeLine
        have : (cutS z none (some s0) ++ (⟨#[c]⟩ : Str)).length = (cutS z none (some s0)).length + 1 := by
          show (_ : Array Nat).size = _
          rw [← Array.length_toList, str_tl, List.length_append, Array.length_toList]
          rfl
        rw [this, sizeLine_eq]
        omega
      have hz1 := word_bent hz hc1 s1 (by omega)
      generalize (cutS z none (some s0) ++ (⟨#[c]⟩ : Str) ++ cutS z (some (s0 + 1)) none) = z1 at hz1 ⊢
      have Lc4 := hB4 _ _ Lp Lc
      have Bc4 : But p H H4 := fun b o n e => hB4 _ _ n (Bc b o n e)
      have wlen : (ws.map V.str).length < sizeLine := by
        rw [List.length_map]
        exact len_ok (by omega)
      have last : ∀ (y : Str) (H9 : Hp), WordOk y → y ∉ ws → H9 L = some (.lst (ws.map V.str)) → PurseAt H9 p (g + 11 * (m.toNat - (i + 1))) → But p H H9 →
          (ws ++ [y]).length = i + 1 ∧ (ws ++ [y]).Nodup ∧ (∀ q ∈ ws ++ [y], WordOk q) ∧ (upd H9 L (.lst (ws.map V.str ++ [V.str y]))) L = some (.lst ((ws ++ [y]).map V.str)) ∧ PurseAt (upd H9 L (.lst (ws.map V.str ++ [V.str y]))) p (g + 11 * (m.toNat - (i + 1))) ∧ But p H (upd H9 L (.lst (ws.map V.str ++ [V.str y]))) := by
        intro y H9 hy hn e9 P9 B9
        refine ⟨by rw [List.length_append, hl] <;> rfl, ?_, fun q hq => ?_, by rw [upd_same, List.map_append] <;> rfl, P9.to fun o e => (upd_ne Lp.symm).trans e, fun b o n e => (upd_ne (ne_of_none e LH)).trans (B9 b o n e)⟩
        · refine List.nodup_append.mpr ⟨hnd, by simp, fun a ha b hb e => hn ?_⟩
          rw [← List.mem_singleton.mp hb, ← e]
          exact ha
        · rcases List.mem_append.mp hq with h | h
          · exact hws q h
          · rw [List.mem_singleton.mp h]
            exact hy
      clear Lc Pc Bc
      cases near with
      | true =>
        refine ⟨_, rfl, true, rfl, ?_⟩
        refine iteF ?_
        have Lc := Lc4
        have Bc := Bc4
        have Pc : PurseAt H4 p (g + 11 * (m.toNat - (i + 1))) := hP4.less (by omega)
        refine ⟨_, rfl, _, rfl, L, _, rfl, .inl (SqL.of Lc), rfl, flat_strs' ws, _, rfl, ?_⟩
        show (if inV (V.str z1) (ws.map V.str) = true then _ else _)
        rw [inV_str]
        by_cases hin : z1 ∈ ws
        · rw [decide_eq_true hin]
          refine iteT ?_
          refine ⟨abc, rfl, (by show 26 ≤ 1000; decide), fun l1 nl1 => ?_⟩
          have nl1L : l1 ≠ L := (ne_of_none Lc nl1).symm
          have sl := same_new (o := .lst (signsOf abc)) nl1
          refine ⟨l1, rfl, ⟨_, SqL.of upd_same⟩, fun D nD => ?_⟩
          have sd := same_new (o := .lst []) nD
          refine lc_list (K := K) (a := l1) (xs := signsOf abc) (fun i H6 => H6 D = some (.lst (((abc.cps.toList.take i).filter fun c => decide (sign c ∉ ws)).map fun c => V.str (sign c))) ∧ Same (upd H4 l1 (.lst (signsOf abc))) H6) ?_ ?_ ?_ ?_
          · exact ⟨upd_same, sd⟩
          · rintro i2 H6 hi2 ⟨q6, s6⟩
            exact s6.seq (SqL.of upd_same)
          · rintro i2 x H6 hx ⟨q6, s6⟩
            obtain ⟨c, hc, rfl⟩ : ∃ c, abc.cps.toList[i2]? = some c ∧ V.str (sign c) = x := by
              unfold signsOf at hx
              rw [List.getElem?_map] at hx
              exact Option.map_eq_some_iff.mp hx
            have et : abc.cps.toList.take (i2 + 1) = abc.cps.toList.take i2 ++ [c] := by rw [List.take_add_one, hc] <;> rfl
            have L6 := s6 _ _ (sl _ _ Lc)
            refine ⟨rfl, ?_⟩
            refine ⟨_, rfl, _, rfl, L, _, rfl, .inl (SqL.of L6), rfl, flat_strs' ws, _, rfl, ?_⟩
            show (if (!inV (V.str (sign c)) (ws.map V.str)) = true then _ else _)
            rw [inV_str]
            by_cases hcw : sign c ∈ ws
            · rw [decide_eq_true hcw]
              refine iteF ⟨?_, s6⟩
              rw [et, List.filter_append, List.filter_cons_of_neg (by simpa using hcw), List.filter_nil, List.append_nil]
              exact q6
            · rw [decide_eq_false hcw]
              refine iteT ?_
              refine ⟨_, rfl, _, q6, ?_, ?_, fun b o e => ?_⟩
              · rw [List.length_map]
                have h1 : ((abc.cps.toList.take i2).filter fun c => decide (sign c ∉ ws)).length ≤ (abc.cps.toList.take i2).length := List.length_filter_le _ _
                have h2 : (abc.cps.toList.take i2).length ≤ 26 := by
                  rw [List.length_take]
                  exact Nat.min_le_right _ _
                exact len_ok (by omega)
              · rw [upd_same, et, List.filter_append, List.filter_cons_of_pos (by simpa using hcw), List.filter_nil, List.map_append]
                rfl
              · exact (upd_ne (ne_of_none e nD)).trans (s6 _ _ e)
          · rintro H6 ⟨q6, s6⟩
            have full : (abc.cps.toList.take (signsOf abc).length) = abc.cps.toList := List.take_of_length_le (by unfold signsOf; rw [List.length_map]; exact Nat.le_refl _)
            rw [full] at q6
            obtain ⟨c0, hc0, hc1⟩ := letter_free (ws := ws) (by omega)
            have mem0 : c0 ∈ abc.cps.toList.filter fun c => decide (sign c ∉ ws) := List.mem_filter.mpr ⟨hc0, by simpa using hc1⟩
            have good : ∀ d ∈ abc.cps.toList.filter (fun c => decide (sign c ∉ ws)), WordOk (sign d) ∧ sign d ∉ ws := fun d hd => by
              have hd' := List.mem_filter.mp hd
              refine ⟨sign_word ?_, by simpa using hd'.2⟩
              have hall : ∀ c ∈ abc.cps.toList, 97 ≤ c ∧ c ≤ 122 := by decide +kernel
              exact hall d hd'.1
            generalize (abc.cps.toList.filter fun c => decide (sign c ∉ ws)) = fl at q6 mem0 good
            match fl, mem0, q6, good with
            | d :: fl, _, q6, good =>
              obtain ⟨gd1, gd2⟩ := good d List.mem_cons_self
              refine ⟨D, _, 0, V.str (sign d), rfl, rfl, SqL.of q6, atI_nat (j := 0) rfl, ?_⟩
              have L6 := s6 _ _ (sl _ _ Lc)
              exact ⟨_, rfl, .inl ⟨rfl, _, SqL.of L6⟩, _, rfl, _, _, _, rfl, rfl, L6, wlen, _, _, _, ws ++ [sign d], rfl, last (sign d) H6 gd1 gd2 L6 (Pc.to fun o e => s6 _ _ (sl _ _ e)) (fun b o nb e => s6 _ _ (sl _ _ (Bc b o nb e)))⟩
        · rw [decide_eq_false hin]
          refine iteF ?_
          exact ⟨_, rfl, .inl ⟨rfl, _, SqL.of Lc⟩, _, rfl, _, _, _, rfl, rfl, Lc, wlen, _, _, _, ws ++ [z1], rfl, last z1 H4 hz1 hin Lc Pc Bc⟩
      | false =>
        refine ⟨_, rfl, false, rfl, ?_⟩
        refine iteT ?_
        refine ⟨_, rfl, p, g + 11 * (m.toNat - (i + 1)), rfl, hP4, fun z2 H5 hz2 hP5 hB5 => ?_⟩
        have Lc := hB5 _ _ Lp Lc4
        have Bc : But p H H5 := fun b o n e => hB5 _ _ n (Bc4 b o n e)
        have Pc : PurseAt H5 p (g + 11 * (m.toNat - (i + 1))) := hP5
        have hz1 := hz2
        refine ⟨_, rfl, _, rfl, L, _, rfl, .inl (SqL.of Lc), rfl, flat_strs' ws, _, rfl, ?_⟩
        show (if inV (V.str z2) (ws.map V.str) = true then _ else _)
        rw [inV_str]
        by_cases hin : z2 ∈ ws
        · rw [decide_eq_true hin]
          refine iteT ?_
          refine ⟨abc, rfl, (by show 26 ≤ 1000; decide), fun l1 nl1 => ?_⟩
          have nl1L : l1 ≠ L := (ne_of_none Lc nl1).symm
          have sl := same_new (o := .lst (signsOf abc)) nl1
          refine ⟨l1, rfl, ⟨_, SqL.of upd_same⟩, fun D nD => ?_⟩
          have sd := same_new (o := .lst []) nD
          refine lc_list (K := K) (a := l1) (xs := signsOf abc) (fun i H6 => H6 D = some (.lst (((abc.cps.toList.take i).filter fun c => decide (sign c ∉ ws)).map fun c => V.str (sign c))) ∧ Same (upd H5 l1 (.lst (signsOf abc))) H6) ?_ ?_ ?_ ?_
          · exact ⟨upd_same, sd⟩
          · rintro i2 H6 hi2 ⟨q6, s6⟩
            exact s6.seq (SqL.of upd_same)
          · rintro i2 x H6 hx ⟨q6, s6⟩
            obtain ⟨c, hc, rfl⟩ : ∃ c, abc.cps.toList[i2]? = some c ∧ V.str (sign c) = x := by
              unfold signsOf at hx
              rw [List.getElem?_map] at hx
              exact Option.map_eq_some_iff.mp hx
            have et : abc.cps.toList.take (i2 + 1) = abc.cps.toList.take i2 ++ [c] := by rw [List.take_add_one, hc] <;> rfl
            have L6 := s6 _ _ (sl _ _ Lc)
            refine ⟨rfl, ?_⟩
            refine ⟨_, rfl, _, rfl, L, _, rfl, .inl (SqL.of L6), rfl, flat_strs' ws, _, rfl, ?_⟩
            show (if (!inV (V.str (sign c)) (ws.map V.str)) = true then _ else _)
            rw [inV_str]
            by_cases hcw : sign c ∈ ws
            · rw [decide_eq_true hcw]
              refine iteF ⟨?_, s6⟩
              rw [et, List.filter_append, List.filter_cons_of_neg (by simpa using hcw), List.filter_nil, List.append_nil]
              exact q6
            · rw [decide_eq_false hcw]
              refine iteT ?_
              refine ⟨_, rfl, _, q6, ?_, ?_, fun b o e => ?_⟩
              · rw [List.length_map]
                have h1 : ((abc.cps.toList.take i2).filter fun c => decide (sign c ∉ ws)).length ≤ (abc.cps.toList.take i2).length := List.length_filter_le _ _
                have h2 : (abc.cps.toList.take i2).length ≤ 26 := by
                  rw [List.length_take]
                  exact Nat.min_le_right _ _
                exact len_ok (by omega)
              · rw [upd_same, et, List.filter_append, List.filter_cons_of_pos (by simpa using hcw), List.filter_nil, List.map_append]
                rfl
              · exact (upd_ne (ne_of_none e nD)).trans (s6 _ _ e)
          · rintro H6 ⟨q6, s6⟩
            have full : (abc.cps.toList.take (signsOf abc).length) = abc.cps.toList := List.take_of_length_le (by unfold signsOf; rw [List.length_map]; exact Nat.le_refl _)
            rw [full] at q6
            obtain ⟨c0, hc0, hc1⟩ := letter_free (ws := ws) (by omega)
            have mem0 : c0 ∈ abc.cps.toList.filter fun c => decide (sign c ∉ ws) := List.mem_filter.mpr ⟨hc0, by simpa using hc1⟩
            have good : ∀ d ∈ abc.cps.toList.filter (fun c => decide (sign c ∉ ws)), WordOk (sign d) ∧ sign d ∉ ws := fun d hd => by
              have hd' := List.mem_filter.mp hd
              refine ⟨sign_word ?_, by simpa using hd'.2⟩
              have hall : ∀ c ∈ abc.cps.toList, 97 ≤ c ∧ c ≤ 122 := by decide +kernel
              exact hall d hd'.1
            generalize (abc.cps.toList.filter fun c => decide (sign c ∉ ws)) = fl at q6 mem0 good
            match fl, mem0, q6, good with
            | d :: fl, _, q6, good =>
              obtain ⟨gd1, gd2⟩ := good d List.mem_cons_self
              refine ⟨D, _, 0, V.str (sign d), rfl, rfl, SqL.of q6, atI_nat (j := 0) rfl, ?_⟩
              have L6 := s6 _ _ (sl _ _ Lc)
              exact ⟨_, rfl, .inl ⟨rfl, _, SqL.of L6⟩, _, rfl, _, _, _, rfl, rfl, L6, wlen, _, _, _, ws ++ [sign d], rfl, last (sign d) H6 gd1 gd2 L6 (Pc.to fun o e => s6 _ _ (sl _ _ e)) (fun b o nb e => s6 _ _ (sl _ _ (Bc b o nb e)))⟩
        · rw [decide_eq_false hin]
          refine iteF ?_
          exact ⟨_, rfl, .inl ⟨rfl, _, SqL.of Lc⟩, _, rfl, _, _, _, rfl, rfl, Lc, wlen, _, _, _, ws ++ [z2], rfl, last z2 H5 hz1 hin Lc Pc Bc⟩
    · rintro σ Hc ⟨v6, v7, v8, ws, rfl, hl, hnd, hws, Lc, Pc, Bc⟩
      refine ⟨_, rfl, k L ws Hc hl hnd hws LH Lc ?_ Bc⟩
      rw [Nat.sub_self] at Pc
      exact Pc
end
end Yt

set_option Elab.async false
set_option linter.all false
set_option maxRecDepth 100000
set_option maxHeartbeats 2000000
namespace Yt
open PySem PySem.Spec PyProof.Rows L2
/-! ### marks: words that ascend -/
theorem lt_tot : ∀ a b : List Nat, a ≠ b → ltCps b a = false → ltCps a b = true
  | [], [], h, _ => absurd rfl h
  | [], _ :: _, _, _ => rfl
  | _ :: _, [], _, h => by cases h
  | x :: r, y :: t, h, k => by
    simp only [ltCps, Bool.or_eq_false_iff, Bool.and_eq_false_imp, decide_eq_false_iff_not, beq_iff_eq] at k
    simp only [ltCps, Bool.or_eq_true, Bool.and_eq_true, decide_eq_true_eq, beq_iff_eq]
    by_cases e : x = y
    · subst e
      exact .inr ⟨rfl, lt_tot r t (fun q => h (by rw [q])) (k.2 rfl)⟩
    · exact .inl (by have := k.1; omega)
theorem lt_tr : ∀ {a b c : List Nat}, ltCps a b = true → ltCps b c = true → ltCps a c = true
  | [], [], _, h, _ => by cases h
  | [], _ :: _, [], _, h => by cases h
  | [], _ :: _, _ :: _, _, _ => rfl
  | _ :: _, [], _, h, _ => by cases h
  | _ :: _, _ :: _, [], _, h => by cases h
  | x :: r, y :: t, z :: u, h, k => by
    simp only [ltCps, Bool.or_eq_true, Bool.and_eq_true, decide_eq_true_eq, beq_iff_eq] at h k ⊢
    rcases h with h | ⟨rfl, h⟩
    · rcases k with k | ⟨rfl, k⟩
      · exact .inl (by omega)
      · exact .inl h
    · rcases k with k | ⟨rfl, k⟩
      · exact .inl k
      · exact .inr ⟨rfl, lt_tr h k⟩
theorem lt_irr : ∀ a : List Nat, ltCps a a = false
  | [] => rfl
  | x :: r => by simp [ltCps, lt_irr r]
def Asc (ms : List Str) : Prop := ms.Pairwise fun a b => ltCps a.cps.toList b.cps.toList = true
theorem Asc.nodup {ms : List Str} (h : Asc ms) : ms.Nodup := List.Pairwise.imp (fun {a b} q e => by
  rw [e, lt_irr] at q
  cases q) h
theorem asc_of : ∀ {ms : List Str}, ms.Nodup → sortedS ms = true → Asc ms
  | [], _, _ => .nil
  | p :: l, nd, h => by
    have go : ∀ (l : List Str) (p : Str), (p :: l).Nodup → risingS p l = true → Asc (p :: l) := by
      intro l
      induction l with
      | nil => intro p _ _; exact List.pairwise_singleton _ _
      | cons x r ih =>
        intro p nd h
        have h' := Bool.and_eq_true_iff.mp (show (!ltCps x.cps.toList p.cps.toList && risingS x r) = true from h)
        have nd' := List.nodup_cons.mp nd
        have t := ih x nd'.2 h'.2
        have px : ltCps p.cps.toList x.cps.toList = true := by
          refine lt_tot _ _ (fun e => nd'.1 ?_) (by simpa using h'.1)
          have : p = x := by
            cases p
            cases x
            simpa using e
          rw [this]
          exact List.mem_cons_self
        refine List.pairwise_cons.mpr ⟨fun y hy => ?_, t⟩
        rcases List.mem_cons.mp hy with rfl | hy
        · exact px
        · exact lt_tr px ((List.pairwise_cons.mp t).1 y hy)
    exact go l p nd h
def spMarks : Sp := fun vs H Q _ => ∃ (p : Addr) (f : Nat) (m : Int), vs = [.ref p, .int m] ∧ 1 ≤ m ∧ m ≤ 20 ∧ PurseAt H p (f + 12 + 11 * m.toNat) ∧
  ∀ (L : Addr) (ms : List Str) (H' : Hp), ms.length = m.toNat → Asc ms → (∀ z ∈ ms, WordOk z) → H L = none → H' L = some (.lst (ms.map V.str)) → PurseAt H' p f → But p H H' → Q (.ref L) H'
section
variable {P : Program} {w : World} {K : PySem.W.Frag} {mg : Str → Option Value} {base : Heap} {f : Addr} {fd : FuncData}
theorem scMarks : FnScope ["_law_purse_here", "_law_many"] ["_law_purse_here", "_law_many"] (defScope sMarks) := ⟨rfl, rfl, rfl, by decide +kernel, rfl, by decide +kernel, by decide +kernel⟩
theorem ok_marks {fW : Addr} {fdW : FuncData} (F : FnP K "_law_marks" sMarks f fd) (hso : mg "sorted" = none)
    (GW : FnOk P w K mg base CX0 4 fW fdW ["_law_purse_here", "_law_many"] spWords) (bW : Binds K fdW ["_law_purse_here", "_law_many"] []) (kW : PySem.W.keepIn K (.ref fW) = true) (gW : mg "_law_words" = some (.ref fW)) :
    FnOk P w K mg base CX0 5 f fd ["_law_purse_here", "_law_many"] spMarks := by
  refine F.ok scMarks (fun vs H Q E h => ?_) (fun cdv A outer s H vs Q E hr h => ?_)
  · obtain ⟨p, g, m, rfl, _⟩ := h
    rfl
  · obtain ⟨p, g, m, rfl, m1, m2, hP, k⟩ := h
    refine ⟨_, PSs.nox (pss_one (ps_ret (pe_callB cr_sortedS (by rfl) hso (by decide +kernel) (pa_cons (pe_call GW hr rfl gW kW bW .nil pass0 (pa_cons (pv 0) (pa_cons (pv 1) pa_nil))) pa_nil)))), ?_⟩
    refine ⟨_, rfl, _, rfl, p, g, m, rfl, m1, m2, hP, fun L ws H1 hl nd hw nL hL hP1 hB => ?_⟩
    refine ⟨L, ws, rfl, SqL.of hL, by rw [hl]; omega, fun ys q perm sorted nq => ?_⟩
    have sq := same_new (o := .lst (ys.map V.str)) nq
    have nqH : H q = none := by
      cases e : H q with
      | none => rfl
      | some o =>
        by_cases c : q = p
        · obtain ⟨o2, e2⟩ := hP1.some
          rw [c, e2] at nq
          cases nq
        · rw [hB q o c e] at nq
          cases nq
    exact k q ys _ (by rw [perm.length_eq, hl]) (asc_of (perm.nodup_iff.mpr nd) sorted) (fun z hz => hw z (perm.mem_iff.mp hz)) nqH upd_same (hP1.to fun o e => sq _ _ e) fun b o n e => sq _ _ (hB b o n e)
end
end Yt

set_option Elab.async false
set_option linter.all false
set_option maxRecDepth 100000
set_option maxHeartbeats 2000000
namespace Yt
open PySem PySem.Spec PyProof.Rows L2
/-! ### all rows of three -/
def grow (ms : List Str) (L : List (List Key)) : List (List Key) := L.flatMap fun s => ms.map fun c => s ++ [Sum.inr c]
def growN (ms : List Str) : Nat → List (List Key)
  | 0 => [[]]
  | n + 1 => grow ms (growN ms n)
theorem grow_len (ms : List Str) : ∀ L : List (List Key), (grow ms L).length = L.length * ms.length
  | [] => by simp [grow]
  | s :: L => by
    have := grow_len ms L
    unfold grow at this ⊢
    rw [List.flatMap_cons, List.length_append, this, List.length_map, List.length_cons]
    rw [Nat.add_mul]
    omega
theorem grow_append (ms : List Str) (L M : List (List Key)) : grow ms (L ++ M) = grow ms L ++ grow ms M := by
  unfold grow
  exact List.flatMap_append
theorem growN_len (ms : List Str) (n : Nat) : (growN ms n).length = ms.length ^ n := by
  induction n with
  | zero => rfl
  | succ n ih => rw [growN, grow_len, ih, Nat.pow_succ]
theorem growN_each (ms : List Str) : ∀ (n : Nat) (k : List Key), k ∈ growN ms n → k.length = n
  | 0, k, h => by
    rw [List.mem_singleton.mp h] <;> rfl
  | n + 1, k, h => by
    obtain ⟨s, hs, h2⟩ := List.mem_flatMap.mp h
    obtain ⟨c, _, rfl⟩ := List.mem_map.mp h2
    rw [List.length_append, growN_each ms n s hs] <;> rfl
theorem Paired.snoc {α β : Type} {R : α → β → Prop} {xs : List α} {ys : List β} {x : α} {y : β} (h : Paired R xs ys) (r : R x y) : Paired R (xs ++ [x]) (ys ++ [y]) := by
  induction h with
  | nil => exact .cons r .nil
  | cons h _ ih => exact .cons h ih
def TupAt (H : Hp) (t : Addr) (k : List Key) : Prop := H t = some (.tup (k.map kV))
theorem pair_app {α β : Type} {R : α → β → Prop} : ∀ {xs xs' : List α} {ys ys' : List β}, Paired R xs ys → Paired R xs' ys' → Paired R (xs ++ xs') (ys ++ ys')
  | _, _, _, _, .nil, h => h
  | _, _, _, _, .cons h t, k => .cons h (pair_app t k)
end Yt

set_option Elab.async false
set_option linter.all false
set_option maxRecDepth 100000
set_option maxHeartbeats 2000000
namespace Yt
open PySem PySem.Spec PyProof.Rows L2
abbrev sIsWord : Stmt := top 11
abbrev sAreMarks : Stmt := top 12
abbrev sCheckMarks : Stmt := top 13
structure Nm7 (mg : Str → Option Value) : Prop where
  str : mg "str" = none
theorem ge_a {c : Nat} (h : 97 ≤ c) : (!decide ((⟨#[c]⟩ : Str).cps.toList < ("a" : Str).cps.toList)) = true := by
  have e : ("a" : Str).cps.toList = [97] := by decide +kernel
  rw [e, ← PyProof.Rows.ltCps_eq]
  show (!ltCps [c] [97]) = true
  have h1 : ¬ c < 97 := by omega
  simp [ltCps, h1]
theorem le_z {c : Nat} (h : c ≤ 122) : (!decide (("z" : Str).cps.toList < (⟨#[c]⟩ : Str).cps.toList)) = true := by
  have e : ("z" : Str).cps.toList = [122] := by decide +kernel
  rw [e, ← PyProof.Rows.ltCps_eq]
  show (!ltCps [122] [c]) = true
  have h1 : ¬ 122 < c := by omega
  simp [ltCps, h1]
def spYes (R : Hp → List V → Prop) : Sp := fun vs H Q _ => R H vs ∧ ∀ H', Same H H' → Q (.bl true) H'
section
variable {P : Program} {w : World} {K : PySem.W.Frag} {mg : Str → Option Value} {base : Heap} {f : Addr} {fd : FuncData}
theorem scIsWord : FnScope ["value", "letter"] ["value"] (defScope sIsWord) := ⟨rfl, rfl, rfl, by decide +kernel, rfl, by decide +kernel, by decide +kernel⟩
theorem ok_isword (F : FnP K "is_word" sIsWord f fd) (T : Nm mg) (T6 : Nm6 mg) (T7 : Nm7 mg) : FnOk P w K mg base CX0 1 f fd ["value"] (spYes fun _ vs => ∃ z, vs = [.str z] ∧ WordOk z) := by
  refine F.ok scIsWord (fun vs H Q E h => ?_) (fun cdv A outer s H vs Q E hr h => ?_)
  · obtain ⟨⟨z, rfl, _⟩, _⟩ := h
    rfl
  · obtain ⟨⟨z, rfl, hz⟩, k⟩ := h
    refine ⟨_, PSs.nox (pss_cons (ps_if (PW.pt (pw_or (pt_not (pt_val (pe_callB call_isi (by rfl) T6.isi (by decide +kernel) (pa_cons (pv 0) (pa_cons (pe_bltn (v := .ty "str") (u := .type "str") (by rfl) T7.str (by decide +kernel) rfl) pa_nil)))))
        (pw_or1 (pt_not (pt_chain op_le op_le pe_int (pe_callB call_len (by rfl) T.len PySem.boot_len (pa_cons (pv 0) pa_nil)) pe_int))))) (pss_one (ps_ret pe_bl)) pss_nil)
      (pss_one (ps_ret (pe_callB (cr_all rfl) (by rfl) T6.all (by decide +kernel) (pa_cons (pe_lc (own := [("letter", 1)]) (g := gName 1) (tt := tYes) rfl scIsWord.nd (pi_str (pv 0)) (blkOk_by (own := [("letter", 1)]) (N := ["value", "letter"]) (sc := defScope sIsWord) (by decide +kernel))
            (fun _ _ _ _ _ => pg_name (i := 1) scIsWord.nd rfl (Or.inl rfl)) (fun _ _ _ _ _ => pts_nil) (fun _ _ _ _ _ => pe_chain op_le_str op_le_str pe_str (pv 1) pe_str)) pa_nil))))), ?_⟩
    have zl : z.length ≤ sizeLine := by
      have := hz.1
      rw [sizeLine_eq]
      omega
    refine ⟨_, rfl, _, _, .type "str", _, true, rfl, .ty _, .base (.str _), kit_ty (by decide +kernel), _, rfl, ?_⟩
    refine iteF ?_
    refine ⟨_, rfl, _, z.length, rfl, ⟨zl, rfl⟩, _, _, rfl, rfl, ?_⟩
    refine ⟨true, by show V.bl (decide ((1 : Int) ≤ (z.length : Nat))) = _; rw [decide_eq_true (show (1 : Int) ≤ (z.length : Nat) by have := hz.1; omega)], ?_⟩
    refine iteT ?_
    refine ⟨_, _, rfl, rfl, true, by show V.bl (decide (((z.length : Nat) : Int) ≤ 8)) = _; rw [decide_eq_true (show ((z.length : Nat) : Int) ≤ 8 by have := hz.1; omega)], ?_⟩
    refine iteF ?_
    refine ⟨_, rfl, z, rfl, fun D hD => ?_⟩
    refine lc_it (walk_str (z := z)) (fun i H3 => H3 D = some (.lst ((List.replicate i true).map V.bl)) ∧ Same H H3) ?_ ?_ ?_ ?_
    · exact ⟨upd_same, same_new hD⟩
    · exact fun _ _ _ _ => trivial
    · rintro i v H3 H4 hi ⟨q5, s5⟩ ⟨rfl, c, hc, rfl⟩
      have hc1 : 97 ≤ c ∧ c ≤ 122 := hz.2 c (List.mem_of_getElem? (by rw [Array.getElem?_toList]; exact hc))
      have hi8 : i < 8 := by
        have : z.cps.size ≤ 8 := hz.1.2
        omega
      refine ⟨rfl, ?_⟩
      refine ⟨_, rfl, _, _, rfl, rfl, true, by rw [ge_a hc1.1], ?_⟩
      refine iteT ?_
      refine ⟨_, _, rfl, rfl, ?_⟩
      rw [le_z hc1.2]
      refine ⟨_, q5, ?_, ?_, fun b o e => ?_⟩
      · rw [List.length_map, List.length_replicate]
        exact len_ok (by omega)
      · rw [upd_same, List.replicate_succ', List.map_append]
        rfl
      · exact (upd_ne (ne_of_none e hD)).trans (s5 _ _ e)
    · rintro H3 ⟨q5, s5⟩
      refine ⟨D, List.replicate z.cps.size true, rfl, SqL.of q5, ?_⟩
      rw [all_rep]
      exact k _ s5
theorem scAreMarks : FnScope ["value", "mark", "low", "high"] ["value"] (defScope sAreMarks) := ⟨rfl, rfl, rfl, by decide +kernel, rfl, by decide +kernel, by decide +kernel⟩
theorem cut_one (xs : List V) (h : 1 ≤ xs.length) : cutV xs (some 1) none = xs.drop 1 := by
  have e : HT.sIx xs.length 0 (some (1 : Int)) = 1 := by
    rw [show (1 : Int) = ((1 : Nat) : Int) from rfl, HT.sIx_nat]
    omega
  unfold cutV
  rw [e, HT.sIx_none, List.take_of_length_le (by rw [List.length_drop]; exact Nat.le_refl _)]
/-- marks -/
def MarksOk (ms : List Str) : Prop := 1 ≤ ms.length ∧ ms.length ≤ 5 ∧ Asc ms ∧ ∀ z ∈ ms, WordOk z
theorem ok_aremarks {fW : Addr} {fdW : FuncData} (F : FnP K "are_marks" sAreMarks f fd) (T : Nm mg) (T6 : Nm6 mg) (GW : FnOk P w K mg base CX0 1 fW fdW ["value"] (spYes fun _ vs => ∃ z, vs = [.str z] ∧ WordOk z)) (bW : Binds K fdW ["value"] []) (kW : PySem.W.keepIn K (.ref fW) = true) (gW : mg "is_word" = some (.ref fW)) :
    FnOk P w K mg base CX0 2 f fd ["value"] (spYes fun H vs => ∃ a ms, vs = [.ref a] ∧ H a = some (.lst (ms.map V.str)) ∧ MarksOk ms) := by
  refine F.ok scAreMarks (fun vs H Q E h => ?_) (fun cdv A outer s H vs Q E hr h => ?_)
  · obtain ⟨⟨a, ms, rfl, _⟩, _⟩ := h
    rfl
  · obtain ⟨⟨a, ms, rfl, ha, hm1, hm2, hm3, hm4⟩, k⟩ := h
    refine ⟨_, PSs.nox (pss_cons (ps_if (PW.pt (pw_or (pt_not (pt_val (pe_callB call_isi (by rfl) T6.isi (by decide +kernel) (pa_cons (pv 0) (pa_cons (pe_bltn (v := .ty "list") (u := .type "list") (by rfl) T6.list (by decide +kernel) rfl) pa_nil)))))
        (pw_or1 (pt_not (pt_truth (pv 0) (by intro _; rfl)))))) (pss_one (ps_ret pe_bl)) pss_nil)
      (pss_cons (ps_if (pt_not (pt_val (pe_callB (cr_all rfl) (by rfl) T6.all (by decide +kernel) (pa_cons (pe_lc (own := [("mark", 1)]) (g := gName 1) (tt := tYes) rfl scAreMarks.nd (pi_list (pv 0)) (blkOk_by (own := [("mark", 1)]) (N := ["value", "mark", "low", "high"]) (sc := defScope sAreMarks) (by decide +kernel))
            (fun _ _ _ _ _ => pg_name (i := 1) scAreMarks.nd rfl (Or.inl rfl)) (fun _ _ _ _ _ => pts_nil) (fun _ _ _ _ _ => pe_call GW hr rfl gW kW bW .nil pass0 (pa_cons (pv 1) pa_nil))) pa_nil)))) (pss_one (ps_ret pe_bl)) pss_nil)
      (pss_one (ps_ret (pe_callB (cr_all rfl) (by rfl) T6.all (by decide +kernel) (pa_cons (pe_lc (own := [("low", 2), ("high", 3)]) (g := gTup K 2 (gCons (gName 2) (gCons (gName 3) gNil))) (tt := tYes) rfl scAreMarks.nd (pi_zip rfl T6.zip (pa_cons (pv 0) (pa_cons (pe_slice sl_list (pv 0) (po_some pe_int) po_none) pa_nil))) (blkOk_by (own := [("low", 2), ("high", 3)]) (N := ["value", "mark", "low", "high"]) (sc := defScope sAreMarks) (by decide +kernel))
            (fun _ _ _ _ _ => pg_tup rfl (pgs_cons (pg_name (i := 2) scAreMarks.nd rfl (Or.inl rfl)) (pgs_cons (pg_name (i := 3) scAreMarks.nd rfl (Or.inl rfl)) pgs_nil))) (fun _ _ _ _ _ => pts_nil) (fun _ _ _ _ _ => pe_cmpR op_lt_str (pv 2) (pv 3) (nomark _))) pa_nil)))))), ?_⟩
    refine ⟨_, rfl, _, _, .type "list", _, true, rfl, .ty _, .base (.lst ha), kit_ty (by decide +kernel), _, rfl, ?_⟩
    refine iteF ?_
    refine ⟨_, rfl, true, .inl ⟨ms.map V.str, SqL.of ha, ?_⟩, ?_⟩
    · cases ms with
      | nil => exact absurd hm1 (by decide)
      | cons m ms => rfl
    refine iteF ?_
    refine ⟨_, rfl, a, rfl, ⟨_, SqL.of ha⟩, fun D hD => ?_⟩
    refine lc_list (K := K) (a := a) (xs := ms.map V.str) (fun i H3 => H3 D = some (.lst ((List.replicate i true).map V.bl)) ∧ Same H H3) ?_ ?_ ?_ ?_
    · exact ⟨upd_same, same_new hD⟩
    · rintro i H3 hi ⟨q5, s5⟩
      exact SqL.of (s5 _ _ ha)
    · rintro i x H3 hx ⟨q5, s5⟩
      obtain ⟨z, ez, rfl⟩ : ∃ z, ms[i]? = some z ∧ V.str z = x := by
        rw [List.getElem?_map] at hx
        exact Option.map_eq_some_iff.mp hx
      have hi : i < ms.length := (List.getElem?_eq_some_iff.mp ez).1
      refine ⟨rfl, ?_⟩
      refine ⟨_, rfl, ⟨z, rfl, hm4 z (List.mem_of_getElem? ez)⟩, fun H6 s6 => ?_⟩
      refine ⟨_, s6 _ _ q5, ?_, ?_, fun b o e => ?_⟩
      · rw [List.length_map, List.length_replicate]
        exact len_ok (by omega)
      · rw [upd_same, List.replicate_succ', List.map_append]
        rfl
      · exact (upd_ne (ne_of_none e hD)).trans (s6 _ _ (s5 _ _ e))
    · rintro H3 ⟨q5, s5⟩
      refine ⟨D, List.replicate (ms.map V.str).length true, rfl, SqL.of q5, ?_⟩
      rw [all_rep]
      refine ⟨true, rfl, ?_⟩
      refine iteF ?_
      refine ⟨_, rfl, _, rfl, 1, rfl, a, ms.map V.str, rfl, SqL.of (s5 _ _ ha), fun S nS => ?_⟩
      have sS := same_new (o := .lst (cutV (ms.map V.str) (some 1) none)) nS
      have ha3 := sS _ _ (s5 _ _ ha)
      have hS : (upd H3 S (.lst (cutV (ms.map V.str) (some 1) none))) S = some (.lst ((ms.drop 1).map V.str)) := by
        rw [upd_same, cut_one _ (by rw [List.length_map]; exact hm1), List.map_drop]
      refine ⟨a, S, ms.map V.str, (ms.drop 1).map V.str, rfl, SqL.of ha3, SqL.of hS, fun D2 nD2 => ?_⟩
      refine lc_it (walk_zip (xs := ms.map V.str) (ys := (ms.drop 1).map V.str) (n := ms.length - 1) (by rw [List.length_map, List.length_map, List.length_drop]; omega)) (fun i H5 => H5 D2 = some (.lst ((List.replicate i true).map V.bl)) ∧ Same (upd H3 S (.lst (cutV (ms.map V.str) (some 1) none))) H5) ?_ ?_ ?_ ?_
      · exact ⟨upd_same, same_new nD2⟩
      · rintro i H5 hi ⟨q6, s6⟩
        exact ⟨SqL.of (s6 _ _ ha3), SqL.of (s6 _ _ hS)⟩
      · rintro i v H5 H6 hi ⟨q6, s6⟩ ⟨t, x, y, rfl, nt, rfl, ex, ey⟩
        obtain ⟨x1, e1, rfl⟩ : ∃ z, ms[i]? = some z ∧ V.str z = x := by
          have ex : (ms.map V.str)[i]? = some x := ex
          rw [List.getElem?_map] at ex
          exact Option.map_eq_some_iff.mp ex
        obtain ⟨y1, e2, rfl⟩ : ∃ z, ms[i + 1]? = some z ∧ V.str z = y := by
          have ey : ((ms.drop 1).map V.str)[i]? = some y := ey
          rw [List.getElem?_map, List.getElem?_drop, Nat.add_comm] at ey
          exact Option.map_eq_some_iff.mp ey
        have lt : ltCps x1.cps.toList y1.cps.toList = true := by
          obtain ⟨h1, g1⟩ := List.getElem?_eq_some_iff.mp e1
          obtain ⟨h2, g2⟩ := List.getElem?_eq_some_iff.mp e2
          have := List.pairwise_iff_getElem.mp hm3 i (i + 1) h1 h2 (Nat.lt_succ_self _)
          rwa [g1, g2] at this
        refine ⟨t, [.str x1, .str y1], rfl, SqT.of upd_same, rfl, _, _, rfl, _, _, rfl, rfl, rfl, ?_⟩
        refine ⟨_, rfl, _, rfl, _, _, rfl, rfl, ?_⟩
        rw [PyProof.Rows.ltCps_eq] at lt
        rw [lt]
        have q7 := same_new (o := .tup [V.str x1, V.str y1]) nt _ _ q6
        refine ⟨_, q7, ?_, ?_, fun b o e => ?_⟩
        · rw [List.length_map, List.length_replicate]
          exact len_ok (by omega)
        · rw [upd_same, List.replicate_succ', List.map_append]
          rfl
        · exact (upd_ne (ne_of_none e nD2)).trans (same_new nt _ _ (s6 _ _ e))
      · rintro H5 ⟨q6, s6⟩
        refine ⟨D2, List.replicate (ms.length - 1) true, rfl, SqL.of q6, ?_⟩
        rw [all_rep]
        exact k _ fun b o e => s6 _ _ (sS _ _ (s5 _ _ e))
end
end Yt

set_option Elab.async false
set_option linter.all false
set_option maxRecDepth 100000
set_option maxHeartbeats 2000000
namespace Yt
open PySem PySem.Spec PyProof.Rows L2
abbrev sIsCount : Stmt := top 10
def spNon (R : Hp → List V → Prop) : Sp := fun vs H Q _ => R H vs ∧ ∀ H', Same H H' → Q .non H'
section
variable {P : Program} {w : World} {K : PySem.W.Frag} {mg : Str → Option Value} {base : Heap} {f : Addr} {fd : FuncData}
theorem scIsCount : FnScope ["value"] ["value"] (defScope sIsCount) := ⟨rfl, rfl, rfl, by decide +kernel, rfl, by decide +kernel, by decide +kernel⟩
theorem ok_iscount (F : FnP K "is_count" sIsCount f fd) (T : Nm mg) (T6 : Nm6 mg) : FnOk P w K mg base CX0 1 f fd ["value"] (spYes fun _ vs => ∃ n : Int, vs = [.int n] ∧ 0 ≤ n) := by
  refine F.ok scIsCount (fun vs H Q E h => ?_) (fun cdv A outer s H vs Q E hr h => ?_)
  · obtain ⟨⟨n, rfl, _⟩, _⟩ := h
    rfl
  · obtain ⟨⟨n, rfl, hn⟩, k⟩ := h
    refine ⟨_, PSs.nox (pss_one (ps_ret (pe_and (pe_callB call_isi (by rfl) T6.isi (by decide +kernel) (pa_cons (pv 0) (pa_cons (pe_bltn (v := .ty "int") (u := .type "int") (by rfl) T.int (by decide +kernel) rfl) pa_nil)))
      (pe_and (pe_not (pe_callB call_isi (by rfl) T6.isi (by decide +kernel) (pa_cons (pv 0) (pa_cons (pe_bltn (v := .ty "bool") (u := .type "bool") (by rfl) T6.bool (by decide +kernel) rfl) pa_nil)))) (pe_one (pe_cmpR op_ge (pv 0) pe_int (nomark _))))))), ?_⟩
    refine ⟨_, rfl, _, _, .type "int", _, true, rfl, .ty _, .base (.int _), kit_ty (by decide +kernel), true, rfl, ?_⟩
    refine iteT ?_
    refine ⟨_, rfl, _, _, .type "int", _, false, rfl, .ty _, .base (.int _), kit_ty (by decide +kernel), _, rfl, true, rfl, ?_⟩
    refine iteT ?_
    refine ⟨_, rfl, _, _, rfl, rfl, ?_⟩
    show Q (.bl (decide (n ≥ 0))) H
    rw [decide_eq_true (show n ≥ 0 from hn)]
    exact k H fun _ _ e => e
theorem scCheckMarks : FnScope ["marks"] ["marks"] (defScope sCheckMarks) := ⟨rfl, rfl, rfl, by decide +kernel, rfl, by decide +kernel, by decide +kernel⟩
theorem ok_checkmarks {fA : Addr} {fdA : FuncData} (F : FnP K "check_marks" sCheckMarks f fd) (GA : FnOk P w K mg base CX0 2 fA fdA ["value"] (spYes fun H vs => ∃ a ms, vs = [.ref a] ∧ H a = some (.lst (ms.map V.str)) ∧ MarksOk ms)) (bA : Binds K fdA ["value"] []) (kA : PySem.W.keepIn K (.ref fA) = true) (gA : mg "are_marks" = some (.ref fA)) :
    FnOk P w K mg base CX0 3 f fd ["marks"] (spNon fun H vs => ∃ a ms, vs = [.ref a] ∧ H a = some (.lst (ms.map V.str)) ∧ MarksOk ms) := by
  refine F.ok scCheckMarks (fun vs H Q E h => ?_) (fun cdv A outer s H vs Q E hr h => ?_)
  · obtain ⟨⟨a, ms, rfl, _⟩, _⟩ := h
    rfl
  · obtain ⟨⟨a, ms, rfl, ha, hm⟩, k⟩ := h
    refine ⟨_, PSs.nox (pss_one (ps_if (pt_not (pt_val (pe_call GA hr rfl gA kA bA .nil pass0 (pa_cons (pv 0) pa_nil)))) (pss_one ps_never) pss_nil)), ?_⟩
    refine ⟨_, rfl, ⟨a, ms, rfl, ha, hm⟩, fun H1 s1 => ⟨true, rfl, ?_⟩⟩
    refine iteF ?_
    exact k H1 s1
theorem grow_nodup {ms : List Str} (hm : ms.Nodup) {L : List (List Key)} (hL : L.Nodup) : (grow ms L).Nodup := by
  unfold grow
  refine List.pairwise_flatMap.mpr ⟨fun s _ => ?_, List.Pairwise.imp (fun {s t} ne x hx y hy e => ?_) hL⟩
  · refine List.pairwise_map.mpr (List.Pairwise.imp (fun {c d} ne e => ne ?_) hm)
    have := List.append_cancel_left e
    simpa using this
  · obtain ⟨c, _, rfl⟩ := List.mem_map.mp hx
    obtain ⟨d, _, rfl⟩ := List.mem_map.mp hy
    exact ne (List.append_inj' e rfl).1
theorem growN_nodup {ms : List Str} (hm : ms.Nodup) : ∀ n, (growN ms n).Nodup
  | 0 => List.pairwise_singleton _ _
  | n + 1 => grow_nodup hm (growN_nodup hm n)
/-- a way in the heap: what it gives of each row of three, in their order -/
def wayOf (ms : List Str) (g : List Key → V) : List (List Key × V) := (growN ms 3).map fun k => (k, g k)
end
end Yt

set_option Elab.async false
set_option linter.all false
set_option maxRecDepth 100000
set_option maxHeartbeats 2000000
namespace Yt
open PySem PySem.Spec PyProof.Rows L2
/-! ### tables of a set as wide as they come: what a search meets -/
/-- every place is met from every one within a round -/
def Round (m : Nat) : Prop := ∀ i j, i ≤ m → j ≤ m → ∃ n, n ≤ m ∧ lcgI m i n = j
def orb (m : Nat) : Nat → Nat → List Nat
  | 0, _ => []
  | n + 1, x => x :: orb m n ((x * 5 + 1) % (m + 1))
theorem lcg_front (m x : Nat) : ∀ n, lcgI m ((x * 5 + 1) % (m + 1)) n = lcgI m x (n + 1)
  | 0 => rfl
  | n + 1 => by
    show (lcgI m ((x * 5 + 1) % (m + 1)) n * 5 + 1) % (m + 1) = (lcgI m x (n + 1) * 5 + 1) % (m + 1)
    rw [lcg_front m x n]
theorem orb_in (m : Nat) : ∀ n x y, y ∈ orb m n x → ∃ b, b < n ∧ lcgI m x b = y
  | 0, _, _, h => nomatch h
  | n + 1, x, y, h => by
    rcases List.mem_cons.mp h with rfl | h
    · exact ⟨0, Nat.succ_pos n, rfl⟩
    · obtain ⟨b, hb, e⟩ := orb_in m n _ y h
      exact ⟨b + 1, Nat.succ_lt_succ hb, by rw [← lcg_front]; exact e⟩
theorem lcg_zero (m : Nat) (b : Nat) : lcgI m 0 b = lcgN m b := by
  have := lcgN_add m 0 b
  rwa [Nat.zero_add] at this
theorem orb511 : ((List.range 512).all fun j => (orb 511 512 0).contains j) = true := by decide +kernel
theorem back511 : (orb 511 513 0).getLast? = some 0 := by decide +kernel
theorem orb_last (m : Nat) : ∀ n x, (orb m (n + 1) x).getLast? = some (lcgI m x n)
  | 0, x => rfl
  | n + 1, x => by
    show (x :: orb m (n + 1) ((x * 5 + 1) % (m + 1))).getLast? = _
    rw [List.getLast?_cons, orb_last m n, ← lcg_front]
    rfl
theorem round511 : Round 511 := by
  have all : ∀ j, j ≤ 511 → ∃ b, b ≤ 511 ∧ lcgN 511 b = j := fun j hj => by
    have h := List.all_eq_true.mp orb511 j (List.mem_range.mpr (by omega))
    obtain ⟨b, hb, e⟩ := orb_in 511 512 0 j (List.contains_iff_mem.mp h)
    exact ⟨b, by omega, by rw [← lcg_zero]; exact e⟩
  have again : ∀ n, lcgN 511 (512 + n) = lcgN 511 n := by
    intro n
    induction n with
    | zero =>
      have := orb_last 511 512 0
      rw [back511] at this
      show lcgN 511 512 = 0
      rw [← lcg_zero]
      exact (Option.some.inj this).symm
    | succ n ih =>
      show (lcgN 511 (512 + n) * 5 + 1) % (511 + 1) = (lcgN 511 n * 5 + 1) % (511 + 1)
      rw [ih]
  intro i j hi hj
  obtain ⟨u, hu, rfl⟩ := all i hi
  obtain ⟨v, hv, rfl⟩ := all j hj
  by_cases c : u ≤ v
  · exact ⟨v - u, by omega, by rw [lcgN_add]; congr 1; omega⟩
  · refine ⟨512 + v - u, by omega, ?_⟩
    rw [lcgN_add, show u + (512 + v - u) = 512 + v by omega, again]
theorem round7 : Round 7 := fun _ _ a b => lcgI_all (.inl rfl) a b
theorem round31 : Round 31 := fun _ _ a b => lcgI_all (.inr (.inl rfl)) a b
theorem round127 : Round 127 := fun _ _ a b => lcgI_all (.inr (.inr rfl)) a b
theorem starts {m : Nat} (R : Round m) (h : Int) {j : Nat} (hj : j ≤ m) : ∃ n, n ≤ m + 12 ∧ runI m (SetTable.bits h) n = j := by
  obtain ⟨n, hn, e⟩ := R _ j (runI_le m (SetTable.bits h) 12) hj
  refine ⟨12 + n, by omega, ?_⟩
  rw [runI_tail (bits_lt h)]
  exact e
theorem met {m : Nat} (R : Round m) (h : Int) {j : Nat} (hj : j ≤ m) : ∃ n, n < 10 * SetTable.turns m ∧ way m h n = j := by
  obtain ⟨a, ha, e⟩ := starts R h hj
  obtain ⟨b, hb, f⟩ := run_nth m (SetTable.bits h) a
  refine ⟨b, ?_, ?_⟩
  · unfold SetTable.turns
    omega
  · show (nth m (runAt m (SetTable.bits h % (m + 1)) (SetTable.bits h)) b).j = j
    rw [f]
    exact e
theorem way_in_ {m : Nat} (h : Int) (n : Nat) : way m h n ≤ m := by
  have start : SetTable.bits h % (m + 1) ≤ m := Nat.lt_succ_iff.mp (Nat.mod_lt _ m.succ_pos)
  obtain ⟨b1, b2, _⟩ := runEnd_bd start
  have := nth_in (m := m) n (runAt m (SetTable.bits h % (m + 1)) (SetTable.bits h)) (by
    show SetTable.bits h % (m + 1) + (SetTable.runEnd m (SetTable.bits h % (m + 1)) - SetTable.bits h % (m + 1)) ≤ m
    omega)
  exact Nat.le_trans (Nat.le_add_right _ _) this
/-- where things of these hashes sit in a table without dead places -/
structure Seats (t : SetTable) (hs : List Int) : Prop where
  up : Ris t.place.toList
  none : t.dummies = #[]
  many : t.place.toList.length = hs.length
  round : Round t.mask
  within : ∀ j ∈ t.place.toList, j ≤ t.mask
  path : ∀ {i : Nat} {h : Int} {j : Nat}, hs[i]? = some h → t.place.toList[i]? = some j → ∃ n, way t.mask h n = j ∧ ∀ c, c < n → way t.mask h c ∈ t.place.toList
theorem Seats.free {t : SetTable} {hs : List Int} (S : Seats t hs) (room : hs.length ≤ t.mask) (h : Int) : ∃ n, n < 10 * SetTable.turns t.mask ∧ way t.mask h n ∉ t.place.toList ∧ ∀ c, c < n → way t.mask h c ∈ t.place.toList := by
  obtain ⟨j, hj, out⟩ := st_missing t.place.toList (t.mask + 1) (by rw [S.many]; omega)
  obtain ⟨n, hn, e⟩ := met S.round h (show j ≤ t.mask by omega)
  obtain ⟨k, k1, k2, k3⟩ := st_least (p := fun c => way t.mask h c ∉ t.place.toList) n (by rw [e]; exact out)
  exact ⟨k, by omega, k2, fun c hc => Classical.byContradiction (k3 c hc)⟩
theorem Seats.ahead {t : SetTable} {hs : List Int} (S : Seats t hs) {h : Int} {n i j : Nat} (out : way t.mask h n ∉ t.place.toList) (hi : hs[i]? = some h) (hj : t.place.toList[i]? = some j) : ∃ c, c < n ∧ way t.mask h c = j := by
  obtain ⟨c, e, full⟩ := S.path hi hj
  refine ⟨c, ?_, e⟩
  rcases Nat.lt_trichotomy c n with z | rfl | z
  · exact z
  · exact absurd (e ▸ List.mem_of_getElem? hj) out
  · exact absurd (full n z) out
/-- one more, at the first place that is free for it -/
theorem Seats.more {t : SetTable} {hs : List Int} (S : Seats t hs) {h : Int} {n : Nat} (out : way t.mask h n ∉ t.place.toList) (full : ∀ c, c < n → way t.mask h c ∈ t.place.toList) :
    SetTable.below t.place (way t.mask h n) ≤ hs.length ∧ Seats (t.put (way t.mask h n)).1 (hs.take (SetTable.below t.place (way t.mask h n)) ++ h :: hs.drop (SetTable.below t.place (way t.mask h n))) ∧ (t.put (way t.mask h n)).1.fill = hs.length + 1 := by
  generalize ej : way t.mask h n = j at out
  have b := (below_cut S.up j).1
  have bp : SetTable.below t.place j ≤ t.place.toList.length := by rwa [Array.length_toList]
  have bh : SetTable.below t.place j ≤ hs.length := by rwa [← S.many]
  have pl := put_place t j
  have keep : ∀ {x}, x ∈ t.place.toList → x ∈ (t.put j).1.place.toList := fun hx => by
    rw [pl]
    exact mem_ins.mpr (.inr hx)
  have len : (t.put j).1.place.toList.length = hs.length + 1 := by rw [pl, len_ins _ bp, S.many]
  refine ⟨bh, ⟨ris_insert S.up (fun e => out (by rw [← Array.getElem?_toList] at e; exact List.mem_of_getElem? e)), put_dm S.none j, by rw [len, len_ins _ bh], S.round, fun x hx => ?_, fun {i h1 j1} hi hj => ?_⟩, ?_⟩
  · rw [pl] at hx
    rcases mem_ins.mp hx with rfl | hx
    · rw [← ej]
      exact way_in_ h n
    · exact S.within x hx
  · rw [tins_get _ bh] at hi
    rw [pl, tins_get _ bp] at hj
    have old : ∀ {i'}, hs[i']? = some h1 → t.place.toList[i']? = some j1 → ∃ c, way t.mask h1 c = j1 ∧ ∀ d, d < c → way t.mask h1 d ∈ (t.put j).1.place.toList := fun a b => by
      obtain ⟨c, e, f⟩ := S.path a b
      exact ⟨c, e, fun d hd => keep (f d hd)⟩
    split at hi
    · rename_i z
      rw [if_pos z] at hj
      exact old hi hj
    · rename_i z
      rw [if_neg z] at hj
      split at hi
      · rename_i y
        rw [if_pos y] at hj
        cases hi
        cases hj
        exact ⟨n, ej, fun d hd => keep (full d hd)⟩
      · rename_i y
        rw [if_neg y] at hj
        exact old hi hj
  · show (t.put j).1.place.size + (t.put j).1.dummies.size = _
    rw [← Array.length_toList, len, put_dm S.none j]
    rfl
end Yt

set_option Elab.async false
set_option linter.all false
set_option maxRecDepth 100000
set_option maxHeartbeats 2000000
namespace Yt
open PySem PySem.Spec PyProof.Rows L2
/-! ### a table laid anew -/
structure Owners (m : Nat) (hs : List Int) (ow : Array (Option Nat)) : Prop where
  size : ow.size = m + 1
  sits : ∀ {j k : Nat}, j ≤ m → oAt ow j = some k → ∃ h n, hs[k]? = some h ∧ way m h n = j ∧ ∀ c, c < n → oAt ow (way m h c) ≠ none
  each : ∀ {k : Nat}, k < hs.length → ∃ j, j ≤ m ∧ oAt ow j = some k
  used : ∃ ps : List Nat, ps.length = hs.length ∧ ∀ j, j ≤ m → oAt ow j ≠ none → j ∈ ps
theorem Owners.none (m : Nat) : Owners m [] (Array.replicate (m + 1) none) := by
  refine ⟨Array.size_replicate, fun hj e => ?_, fun hk => absurd hk (Nat.not_lt_zero _), [], rfl, fun j hj ne => absurd (oAt_init hj) ne⟩
  rw [oAt_init hj] at e
  cases e
theorem seat_free {m : Nat} (R : Round m) (ow : Array (Option Nat)) (h : Int) {j : Nat} (hj : j ≤ m) (e : oAt ow j = none) :
    ∃ n, SetTable.layClean.free m ow (SetTable.turns m) (SetTable.bits h % (m + 1)) (SetTable.bits h) = some (way m h n) ∧ oAt ow (way m h n) = none ∧ ∀ c, c < n → oAt ow (way m h c) ≠ none := by
  obtain ⟨u, hu, eu⟩ := starts R h hj
  have there : way m h (off m (SetTable.bits h % (m + 1)) (SetTable.bits h) u) = j := by
    have q := congrArg SetTable.Probe.j (nth_off m u (SetTable.bits h % (m + 1)) (SetTable.bits h))
    rw [itL_run] at q
    exact q.trans eu
  obtain ⟨n, n1, n2, n3⟩ := st_least (p := fun c => oAt ow (way m h c) = .none) _ (by rw [there]; exact e)
  refine ⟨n, free_spec m ow _ u _ _ n (by unfold SetTable.turns; omega) n1 (fun c hc => ?_) (by show (oAt ow (way m h n)).isNone = true; rw [n2] <;> rfl), n2, n3⟩
  show (oAt ow (way m h c)).isNone = false
  cases q : oAt ow (way m h c) with
  | none => exact absurd q (n3 c hc)
  | some _ => rfl
theorem Owners.one {m : Nat} {hs : List Int} {ow : Array (Option Nat)} (W : Owners m hs ow) (R : Round m) (room : hs.length ≤ m) (h : Int) :
    ∃ j, SetTable.layClean.free m ow (SetTable.turns m) (SetTable.bits h % (m + 1)) (SetTable.bits h) = some j ∧ Owners m (hs ++ [h]) (ow.setIfInBounds j (some hs.length)) := by
  obtain ⟨ps, lps, inps⟩ := W.used
  obtain ⟨j0, lt0, out0⟩ := st_missing ps (m + 1) (by omega)
  have free0 : oAt ow j0 = .none := Classical.byContradiction fun z => out0 (inps j0 (by omega) z)
  obtain ⟨n, f1, f2, f3⟩ := seat_free R ow h (show j0 ≤ m by omega) free0
  have le := way_in_ (m := m) h n
  have inb : way m h n < ow.size := by
    rw [W.size]
    omega
  have self := oAt_set_self (some hs.length) inb
  refine ⟨_, f1, ?_⟩
  generalize ej : way m h n = j at f2 le inb self
  have still : ∀ {i : Nat}, oAt ow i ≠ .none → oAt (ow.setIfInBounds j (some hs.length)) i ≠ .none := fun {i} ne => by
    by_cases c : i = j
    · rw [c, self]
      exact fun z => nomatch z
    · rwa [oAt_set_ne _ c]
  refine ⟨by rw [Array.size_setIfInBounds, W.size], fun {i k} hi e => ?_, fun {k} hk => ?_, j :: ps, by rw [List.length_cons, List.length_append, lps] <;> rfl, fun i hi ne => ?_⟩
  · by_cases c : i = j
    · rw [c, self] at e
      cases e
      exact ⟨h, n, List.getElem?_concat_length, ej.trans c.symm, fun d hd => still (f3 d hd)⟩
    · rw [oAt_set_ne _ c] at e
      obtain ⟨h', n', a1, a2, a3⟩ := W.sits hi e
      exact ⟨h', n', by rw [List.getElem?_append_left (List.getElem?_eq_some_iff.mp a1).1, a1], a2, fun d hd => still (a3 d hd)⟩
  · rw [List.length_append] at hk
    by_cases c : k = hs.length
    · exact ⟨j, le, by rw [c, self]⟩
    · obtain ⟨i, hi, e⟩ := W.each (k := k) (by simp only [List.length_singleton] at hk; omega)
      refine ⟨i, hi, ?_⟩
      rw [oAt_set_ne _ (fun z => by rw [z, f2] at e; cases e), e]
  · by_cases c : i = j
    · rw [c]
      exact List.mem_cons_self
    · rw [oAt_set_ne _ c] at ne
      exact List.mem_cons_of_mem _ (inps i hi ne)
theorem owners_fold {m : Nat} (R : Round m) : ∀ (rest hs : List Int) (ow : Array (Option Nat)), Owners m hs ow → hs.length + rest.length ≤ m →
    ∃ ow', rest.foldl (stepF m) (some (ow, hs.length)) = some (ow', hs.length + rest.length) ∧ Owners m (hs ++ rest) ow'
  | [], hs, ow, W, _ => ⟨ow, rfl, by rwa [List.append_nil]⟩
  | h :: rest, hs, ow, W, le => by
    rw [List.length_cons] at le
    obtain ⟨j, e, W1⟩ := W.one R (by omega) h
    obtain ⟨ow', f, W2⟩ := owners_fold R rest (hs ++ [h]) _ W1 (by rw [List.length_append, List.length_singleton]; omega)
    refine ⟨ow', ?_, by rwa [List.append_assoc] at W2⟩
    rw [List.foldl_cons, stepF_some e]
    rw [List.length_append, List.length_singleton] at f
    rw [f, List.length_cons]
    congr 2
    omega
theorem owners_all {m : Nat} (R : Round m) {hs : Array Int} (le : hs.size ≤ m) : ∃ ow, SetTable.layClean m hs = some ow ∧ Owners m hs.toList ow := by
  obtain ⟨ow, f, W⟩ := owners_fold R hs.toList [] _ (Owners.none m) (by show 0 + hs.toList.length ≤ m; rw [Array.length_toList]; omega)
  refine ⟨ow, ?_, W⟩
  rw [layClean_eq]
  have f : hs.toList.foldl (stepF m) (some (Array.replicate (m + 1) .none, 0)) = _ := f
  rw [f]
  rfl
/-- the new order, and where all sit then -/
theorem laid_anew (t : SetTable) {hs : Array Int} {want M : Nat} (eM : SetTable.sizeAbove want - 1 = M) (R : Round M) (le : hs.size ≤ M) :
    ∃ t' order, t.relaid hs want = some (t', order) ∧ order.toList.Perm (List.range hs.size) ∧ Seats t' (order.toList.map fun i => hs.getD i 0) ∧ t'.mask = M ∧ t'.led = t.led := by
  obtain ⟨ow, e, W⟩ := owners_all R le
  obtain ⟨up, sub⟩ := ris_live (fun j => ow.getD j none) (List.range (M + 1)) (show (List.range (M + 1)).Pairwise (· < ·) from List.pairwise_lt_range)
  have up : Ris ((liveOf M ow).map (·.1)) := up
  have sub : ∀ x ∈ (liveOf M ow).map (·.1), x ∈ List.range (M + 1) := sub
  have n1 : (liveOf M ow).length ≤ hs.size := by
    obtain ⟨ps, lps, inps⟩ := W.used
    have := nat_nodup_len ((liveOf M ow).map (·.1)) ps (List.Pairwise.imp (fun h => Nat.ne_of_lt h) (show ((liveOf M ow).map (·.1)).Pairwise (· < ·) from up)) fun j hj => by
      obtain ⟨⟨j', k⟩, hm, rfl⟩ := List.mem_map.mp hj
      have q := (mem_live W.size).mp hm
      exact inps _ q.1 (by rw [q.2]; exact fun z => nomatch z)
    rwa [List.length_map, lps, Array.length_toList] at this
  have cov : ∀ k, k < hs.size → k ∈ (liveOf M ow).map (·.2) := fun k hk => by
    obtain ⟨j, hj, ej⟩ := W.each (k := k) (by rwa [Array.length_toList])
    exact List.mem_map.mpr ⟨(j, k), (mem_live W.size).mpr ⟨hj, ej⟩, rfl⟩
  have n2 : hs.size ≤ (liveOf M ow).length := by
    have := nat_nodup_len (List.range hs.size) ((liveOf M ow).map (·.2)) List.nodup_range fun k hk => cov k (List.mem_range.mp hk)
    rwa [List.length_range, List.length_map] at this
  refine ⟨tabOf t M ow, ((liveOf M ow).map (·.2)).toArray, by rw [relaid_eq, eM, e] <;> rfl, perm_range _ _ (by rw [List.toList_toArray, List.length_map]; omega) cov, ⟨up, rfl, ?_, R, fun j hj => ?_, fun {i h j} hi hj => ?_⟩, rfl, rfl⟩
  · show ((liveOf M ow).map (·.1)).length = (((liveOf M ow).map (·.2)).map _).length
    rw [List.length_map, List.length_map, List.length_map]
  · exact Nat.lt_succ_iff.mp (List.mem_range.mp (sub j hj))
  · have hj : ((liveOf M ow).map (·.1))[i]? = some j := hj
    have hi : (((liveOf M ow).map (·.2)).map fun i => hs.getD i 0)[i]? = some h := hi
    rw [List.getElem?_map] at hj
    rw [List.getElem?_map, List.getElem?_map] at hi
    obtain ⟨⟨j', k⟩, hq, ej⟩ := Option.map_eq_some_iff.mp hj
    have ej : j' = j := ej
    subst ej
    rw [hq] at hi
    have hi : hs.getD k 0 = h := Option.some.inj hi
    obtain ⟨lj, ow1⟩ := (mem_live W.size).mp (List.mem_of_getElem? hq)
    obtain ⟨h', n, a1, a2, a3⟩ := W.sits lj ow1
    have eh : h' = h := by
      rw [← hi, Array.getD_eq_getD_getElem?, ← Array.getElem?_toList, a1]
      rfl
    subst eh
    refine ⟨n, a2, fun c hc => ?_⟩
    show way M h' c ∈ (liveOf M ow).map (·.1)
    cases q : oAt ow (way M h' c) with
    | none => exact absurd q (a3 c hc)
    | some k2 => exact List.mem_map.mpr ⟨(way M h' c, k2), (mem_live W.size).mpr ⟨way_in_ h' c, q⟩, rfl⟩
end Yt

set_option Elab.async false
set_option linter.all false
set_option maxRecDepth 100000
set_option maxHeartbeats 2000000
namespace Yt
open PySem PySem.Spec PyProof.Rows L2
/-! ### sets of tuples of numbers and texts: the search, what comes in -/
abbrev hashT (P : Program) (w : World) (k : List Key) : Int := tupleKeyHash (mixKind P w) k
abbrev IsTup (P : Program) (w : World) (h : Heap) (k : List Key) (b : Addr) : Prop := IsTupleKey (mixKind P w) h k b
def rowsT (P : Program) (w : World) (L : List (Addr × List Key)) : List (Int × Value) := L.map fun e => (hashT P w e.2, Value.ref e.1)
def okM (m : Nat) : Prop := m = 7 ∨ m = 31 ∨ m = 127 ∨ m = 511
theorem okM.round {m : Nat} : okM m → Round m
  | .inl e => e ▸ round7
  | .inr (.inl e) => e ▸ round31
  | .inr (.inr (.inl e)) => e ▸ round127
  | .inr (.inr (.inr e)) => e ▸ round511
section
variable {P : Program} {w : World} {A : Around} {E : Value → Shared → Prop} {s : Shared}
theorem items_leaf {k : List Key} {vs : List Value} (h : ItemsAre (mixKind P w) k vs) : ∀ v ∈ vs, v.scannable = true := by
  induction h with
  | nil => exact fun v hv => nomatch hv
  | cons h1 _ ih =>
    intro v hv
    rcases List.mem_cons.mp hv with rfl | hv
    · rcases keyIs_shape h1 with ⟨i, t, _, rfl⟩ | ⟨x, t, _, rfl⟩
      · rfl
      · rfl
    · exact ih v hv
theorem leaf_class {v : Value} (h : v.scannable = true) (n : Nat) : ofAClassStatement n v = pure false := by
  cases v <;> first | (cases n <;> rfl) | cases h
theorem tup_class {k : List Key} {b : Addr} {Q : Bool → Shared → Prop} (hk : IsTup P w s.heap k b) (q : Q false s) : wpAny (model P w) A (ofAClassStatement 8 (.ref b)) Q E s := by
  have isT := hk.typeIs
  obtain ⟨ob, its, n, hob, _, hdat, hits⟩ := hk
  have leafs := items_leaf hits
  unfold ofAClassStatement
  refine wpAny_bind (wpAny_typeOf isT ?_)
  dsimp only
  have e : (("tuple" : String) == "tuple") = true := by decide
  simp only [e, if_true, Bool.not_true, Bool.false_eq_true, if_false]
  try refine wpAny_bind (wpAny_pure ?_)
  try simp only [Bool.not_true, Bool.false_eq_true, if_false]
  show wpAny (model P w) A (seqItems? (.ref b) >>= _) Q E s
  refine wpAny_bind (wpAny_seqItems hob hdat ?_)
  dsimp only
  refine wpAny_bind ?_
  show wpAny (model P w) A (forIn its _ _) _ E s
  rw [← Array.forIn_toList]
  refine wpAny_forIn_list _ (fun left st u => st.1 = none ∧ u = s ∧ ∀ v ∈ left, v.scannable = true) _ ?_ ?_ _ _ ⟨rfl, rfl, leafs⟩
  · rintro v left st u ⟨_, rfl, al⟩
    rw [leaf_class (al v List.mem_cons_self)]
    refine wpAny_bind (wpAny_pure ?_)
    simp only [Bool.false_eq_true, if_false]
    exact wpAny_pure ⟨rfl, rfl, fun z hz => al z (List.mem_cons_of_mem _ hz)⟩
  · rintro ⟨st1, st2⟩ u ⟨none1, rfl, _⟩
    simp only at none1
    subst none1
    exact wpAny_pure q
/-- whatever it says -/
theorem tup_byValue {k : List Key} {b : Addr} {Q : Bool → Shared → Prop} (hk : IsTup P w s.heap k b) (q : ∀ c, Q c s) : wpAny (model P w) A (hashByValue 8 (.ref b)) Q E s := by
  have isT := hk.typeIs
  obtain ⟨ob, its, n, hob, _, hdat, hits⟩ := hk
  have leafs := items_leaf hits
  unfold hashByValue
  refine wpAny_bind (wpAny_specialOf isT F.slot_tuple_hash.lookup ?_)
  show wpAny (model P w) A (seqItems? (.ref b) >>= _) Q E s
  refine wpAny_bind (wpAny_seqItems hob hdat ?_)
  refine wpAny_bind ?_
  show wpAny (model P w) A (forIn its _ _) _ E s
  rw [← Array.forIn_toList]
  refine wpAny_mono (wpAny_forIn_list _ (fun left st u => st.1 = none ∧ u = s ∧ ∀ v ∈ left, v.scannable = true) (fun st u => u = s ∧ (st.1 = none ∨ ∃ c, st.1 = some c)) ?turn ?fin _ _ ⟨rfl, rfl, leafs⟩) ?post fun _ _ y => y
  case turn =>
    rintro v left st u ⟨_, rfl, al⟩
    rw [hashByValue_scannable _ (al v List.mem_cons_self)]
    refine wpAny_bind (wpAny_pure ?_)
    cases plainKind v with
    | true =>
      simp only [Bool.not_true, Bool.false_eq_true, if_false]
      exact wpAny_pure ⟨rfl, rfl, fun z hz => al z (List.mem_cons_of_mem _ hz)⟩
    | false =>
      simp only [Bool.not_false, if_true]
      exact wpAny_pure ⟨rfl, .inr ⟨_, rfl⟩⟩
  case fin =>
    rintro st u ⟨h1, h2, _⟩
    exact ⟨h2, .inl h1⟩
  case post =>
    rintro ⟨st1, st2⟩ u ⟨rfl, h⟩
    rcases h with h | ⟨c, h⟩
    · simp only at h
      subst h
      exact wpAny_pure (q _)
    · simp only at h
      subst h
      exact wpAny_pure (q _)
theorem tup_unseen {k : List Key} {b : Addr} {Q : Bool → Shared → Prop} (hk : IsTup P w s.heap k b) {ys : List Value} (hy : ∀ y ∈ ys, ∃ k' c, y = Value.ref c ∧ IsTup P w s.heap k' c) (q : Q false s) :
    wpAny (model P w) A (searchCouldBeSeen (.ref b) ys) Q E s := by
  unfold searchCouldBeSeen
  refine wpAny_bind ?_
  refine wpAny_forIn_list _ (fun left st u => st.1 = none ∧ u = s ∧ ∀ y ∈ left, ∃ k' c, y = Value.ref c ∧ IsTup P w s.heap k' c) _ ?_ ?_ _ _ ⟨rfl, rfl, hy⟩
  · rintro v left st u ⟨_, rfl, al⟩
    obtain ⟨k', c, rfl, hc⟩ := al v List.mem_cons_self
    have al' := fun z hz => al z (List.mem_cons_of_mem _ hz)
    dsimp only
    by_cases same : (b == c || (carriedByValue (.ref b) && carriedByValue (.ref c))) = true
    · exact wp_if_pos same (wpAny_pure ⟨rfl, rfl, al'⟩)
    · refine wp_if_neg same ?_
      refine wpAny_bind (wpAny_eqIsQuiet_tuple hk ?_)
      simp only [Bool.not_true, Bool.false_eq_true, if_false]
      refine wpAny_bind (wpAny_eqIsQuiet_tuple hc ?_)
      simp only [Bool.not_true, Bool.false_eq_true, if_false]
      refine wpAny_bind (tup_class hk ?_)
      simp only [Bool.false_eq_true, if_false]
      refine wpAny_bind (tup_class hc ?_)
      simp only [Bool.false_eq_true, if_false]
      exact wpAny_pure ⟨rfl, rfl, al'⟩
  · rintro ⟨st1, st2⟩ u ⟨none1, rfl, _⟩
    simp only at none1
    subst none1
    exact wpAny_pure q
end
end Yt

set_option Elab.async false
set_option linter.all false
set_option maxRecDepth 100000
set_option maxHeartbeats 2000000
namespace Yt
open PySem PySem.Spec PyProof.Rows L2
/-- the set at a, its members by their tuples in the table's order -/
structure TupSet (P : Program) (w : World) (h : Heap) (a : Addr) (L : List (Addr × List Key)) (es : Array (Int × Value)) (ep : Nat) (t : SetTable) : Prop where
  there : ∃ o, h.get? a = some o ∧ o.ExactSet ∧ o.data = .set es ep t
  rows : es.toList = rowsT P w L
  seats : Seats t (L.map fun e => hashT P w e.2)
  mask : okM t.mask
  unlike : (L.map (·.2)).Nodup
  tups : ∀ e ∈ L, IsTup P w h e.2 e.1
  led : w.params.followText "set-order" = true ∨ t.led = true
  room : L.length * 5 < t.mask * 3
  few : L.length < 300
section
variable {P : Program} {w : World} {A : Around} {E : Value → Shared → Prop} {s : Shared} {a : Addr} {L : List (Addr × List Key)} {es : Array (Int × Value)} {ep : Nat} {t : SetTable}
theorem TupSet.size {h : Heap} (R : TupSet P w h a L es ep t) : es.size = L.length := by
  have := congrArg List.length R.rows
  rwa [Array.length_toList, rowsT, List.length_map] at this
theorem TupSet.places {h : Heap} (R : TupSet P w h a L es ep t) : t.place.toList.length = L.length := by
  rw [R.seats.many, List.length_map]
theorem fits_by {n : Nat} (h1 : t.place.toList.length = n) (h2 : t.dummies = #[]) (h3 : n ≤ t.mask) : t.fits n = true := by
  unfold SetTable.fits SetTable.fill
  rw [← Array.length_toList, h1, h2]
  simp [h3]
theorem TupSet.fits {h : Heap} (R : TupSet P w h a L es ep t) : t.fits es.size = true := by
  have := R.room
  exact fits_by (R.places.trans R.size.symm) R.seats.none (by rw [R.size]; omega)
theorem TupSet.entry {h : Heap} (R : TupSet P w h a L es ep t) {i : Nat} {e : Addr × List Key} (q : L[i]? = some e) : es[i]? = some (hashT P w e.2, Value.ref e.1) := by
  rw [← Array.getElem?_toList, R.rows, rowsT, List.getElem?_map, q]
  rfl
theorem TupSet.stands {h : Heap} (R : TupSet P w h a L es ep t) : ¬ t.gaveWay = true := by
  unfold SetTable.gaveWay
  rcases R.mask with e | e | e | e <;> rw [e] <;> decide
theorem no_dummy (m : Nat) : ∀ (n : Nat) (p : SetTable.Probe), p.dummy = none → (nth m p n).dummy = none
  | 0, _, h => h
  | n + 1, p, h => no_dummy m n (adv m p) (by unfold adv; split <;> exact h)
/-- the search, from any step of its way on -/
theorem find_from (R : TupSet P w s.heap a L es ep t) {x : Addr} {k : List Key} (hx : IsTup P w s.heap k x) (hu : A.units < cLine) {n : Nat} (nf : n < 10 * SetTable.turns t.mask)
    (out : way t.mask (hashT P w k) n ∉ t.place.toList) (full : ∀ c, c < n → way t.mask (hashT P w k) c ∈ t.place.toList) {Q : SetFound → Shared → Prop}
    (yes : k ∈ L.map (·.2) → Q (.there none) s) (no : k ∉ L.map (·.2) → Q (.free (way t.mask (hashT P w k) n) false) s) :
    ∀ (fuel c : Nat) (from_ : Option SetTable.Probe), from_.getD (t.probeStart (hashT P w k)) = nth t.mask (runAt t.mask (SetTable.bits (hashT P w k) % (t.mask + 1)) (SetTable.bits (hashT P w k))) c → c ≤ n → n - c < fuel →
      (∀ (i : Nat) (e : Addr × List Key), L[i]? = some e → e.2 = k → ∃ d, c ≤ d ∧ d < n ∧ t.place.toList[i]? = some (way t.mask (hashT P w k) d)) →
      wpAny (model P w) A (setSearchFrom a (.ref x) (hashT P w k) true fuel from_) Q E s
  | 0, c, _, _, _, lt, _ => absurd lt (Nat.not_lt_zero _)
  | fuel + 1, c, from_, ef, cn, lt, left => by
    obtain ⟨ob, hob, hex, hdat⟩ := R.there
    rw [setSearchFrom_succ]
    refine wpAny_bind (wpAny_setState_of hob hdat R.fits ?_)
    dsimp only
    refine wp_if_neg R.stands ?_
    try refine wpAny_bind (wpAny_pure ?_)
    generalize ep0 : runAt t.mask (SetTable.bits (hashT P w k) % (t.mask + 1)) (SetTable.bits (hashT P w k)) = p0 at ef
    have way_of_ : ∀ d, way t.mask (hashT P w k) d = (nth t.mask p0 d).j := fun d => by rw [← ep0]
    have later : ∀ d, nth t.mask (nth t.mask p0 c) d = nth t.mask p0 (c + d) := fun d => (nth_add t.mask c p0 d).symm
    have dm0 : p0.dummy = none := by rw [← ep0] <;> rfl
    have spec := go_spec t R.seats.up R.seats.none (fun i => (es[i]?.map (·.1)).getD 0) (hashT P w k) (10 * SetTable.turns t.mask) (n - c) _ (no_dummy t.mask c p0 dm0) (by omega)
      (fun d hd => by rw [later, ← way_of_]; exact full (c + d) (by omega)) (by rw [later, ← way_of_, show c + (n - c) = n by omega]; exact out)
    have hash_of : ∀ {i : Nat} {e : Addr × List Key}, L[i]? = some e → (fun i => (es[i]?.map (·.1)).getD 0) i = hashT P w e.2 := fun {i e} q => by
      show (es[i]?.map (·.1)).getD 0 = _
      rw [R.entry q]
      rfl
    rcases spec with ⟨d, i, dn, hi, _, before, ans⟩ | ⟨before, ans⟩
    · rw [later, later] at ans
      rw [later, ← way_of_] at hi
      have ans' : t.probe (fun i => (es[i]?.map (·.1)).getD 0) (hashT P w k) (from_.getD (t.probeStart (hashT P w k))) = some (.candidate (nth t.mask p0 (c + d)).j i (nth t.mask p0 (c + (d + 1)))) := by
        rw [ef]
        exact ans
      rw [ans']
      dsimp only
      have il : i < L.length := by
        rw [← R.places]
        exact (List.getElem?_eq_some_iff.mp hi).1
      obtain ⟨e, he⟩ : ∃ e, L[i]? = some e := ⟨_, List.getElem?_eq_getElem il⟩
      have hm := List.mem_of_getElem? he
      have seat : t.slot (nth t.mask p0 (c + d)).j = .live i := slot_live R.seats.up (by rw [← way_of_]; exact hi)
      have tail : wpAny (model P w) A (searchRest a (.ref x) (hashT P w k) true fuel es t (nth t.mask p0 (c + d)).j i (nth t.mask p0 (c + (d + 1)))) Q E s := by
        unfold searchRest
        rw [R.entry he]
        dsimp only
        refine wpAny_bind (wpAny_holding (wpAny_eqBool_tuple hu (R.tups e hm) hx ?_))
        refine wpAny_bind (wpAny_setState_of hob hdat R.fits ?_)
        dsimp only
        by_cases same : e.2 = k
        · refine wp_if_pos (by simp [same]) ?_
          exact wpAny_pure (yes (List.mem_map.mpr ⟨e, hm, same⟩))
        · refine wp_if_neg (by simp [same]) ?_
          try refine wpAny_bind (wpAny_pure ?_)
          rw [sameMem]
          dsimp only
          simp only [if_true, seat, R.entry he]
          refine wpAny_bind (wpAny_isSame_ref_self (wpAny_bind (wpAny_pure ?_)))
          simp only [if_true]
          refine wp_if_neg (by simp [same]) ?_
          refine find_from R hx hu nf out full yes no fuel (c + (d + 1)) _ (by rw [ep0] <;> rfl) (by omega) (by omega) fun i1 e1 h1 k1 => ?_
          obtain ⟨d1, a1, a2, a3⟩ := left i1 e1 h1 k1
          refine ⟨d1, ?_, a2, a3⟩
          rcases Nat.lt_trichotomy d1 (c + d) with z | z | z
          · refine absurd ?_ (before (d1 - c) i1 (by omega) (by rw [later, ← way_of_, show c + (d1 - c) = d1 by omega]; exact a3))
            rw [← k1]
            exact hash_of h1
          · have s1 := slot_live R.seats.up a3
            rw [z, way_of_, seat] at s1
            injection s1 with s1
            rw [← s1, he] at h1
            exact absurd ((congrArg Prod.snd (Option.some.inj h1)).trans k1) same
          · omega
      by_cases hl : t.led = true
      · refine wp_if_neg (by simp [hl]) ?_
        try refine wpAny_bind (wpAny_pure ?_)
        exact tail
      · refine wp_if_pos (by simp [hl]) ?_
        refine wpAny_bind (tup_unseen hx (fun y hy => ?_) ?_)
        · obtain ⟨r, hr, er⟩ := List.mem_map.mp hy
          have hr : r ∈ es ∧ r.1 = hashT P w k := by simpa using hr
          have hr1 : r ∈ es.toList := by simpa using hr.1
          rw [R.rows, rowsT] at hr1
          obtain ⟨e1, he1, e1r⟩ := List.mem_map.mp hr1
          exact ⟨e1.2, e1.1, by rw [← er, ← e1r], R.tups e1 he1⟩
        · refine wp_if_neg (by decide) ?_
          try refine wpAny_bind (wpAny_pure ?_)
          exact tail
    · rw [later, show c + (n - c) = n by omega, ← way_of_] at ans
      have ans' : t.probe (fun i => (es[i]?.map (·.1)).getD 0) (hashT P w k) (from_.getD (t.probeStart (hashT P w k))) = some (.empty (way t.mask (hashT P w k) n) none) := by
        rw [ef]
        exact ans
      rw [ans']
      dsimp only
      refine wpAny_pure (no fun hm => ?_)
      obtain ⟨e, he, ek⟩ := List.mem_map.mp hm
      obtain ⟨i, hi⟩ := List.mem_iff_getElem?.mp he
      obtain ⟨d, a1, a2, a3⟩ := left i e hi ek
      refine before (d - c) i (by omega) (by rw [later, ← way_of_, show c + (d - c) = d by omega]; exact a3) ?_
      rw [← ek]
      exact hash_of hi
theorem find_tup (R : TupSet P w s.heap a L es ep t) {x : Addr} {k : List Key} (hx : IsTup P w s.heap k x) (hu : A.units < cLine) {Q : SetFound → Shared → Prop} (yes : k ∈ L.map (·.2) → Q (.there none) s)
    (no : ∀ n, k ∉ L.map (·.2) → way t.mask (hashT P w k) n ∉ t.place.toList → (∀ c, c < n → way t.mask (hashT P w k) c ∈ t.place.toList) → Q (.free (way t.mask (hashT P w k) n) false) s) :
    wpAny (model P w) A (setSearch a (.ref x) (hashT P w k) true) Q E s := by
  have room := R.room
  obtain ⟨n, nf, out, full⟩ := R.seats.free (by rw [List.length_map]; omega) (hashT P w k)
  have small : n < 100000 := by
    unfold SetTable.turns at nf
    rcases R.mask with e | e | e | e <;> omega
  unfold setSearch
  refine find_from R hx hu nf out full yes (fun z => no n z out full) 100000 0 none rfl (Nat.zero_le n) (by omega) fun i e he ek => ?_
  have hh : (L.map fun e => hashT P w e.2)[i]? = some (hashT P w k) := by rw [List.getElem?_map, he, ← ek] <;> rfl
  obtain ⟨j, hj⟩ : ∃ j, t.place.toList[i]? = some j := ⟨_, List.getElem?_eq_getElem (by rw [R.places]; exact (List.getElem?_eq_some_iff.mp he).1)⟩
  obtain ⟨c, cn, ec⟩ := R.seats.ahead out hh hj
  exact ⟨c, Nat.zero_le c, cn, by rw [hj, ec]⟩
end
end Yt

set_option Elab.async false
set_option linter.all false
set_option maxRecDepth 100000
set_option maxHeartbeats 2000000
namespace Yt
open PySem PySem.Spec PyProof.Rows L2
/-! ### one comes in -/
section
variable {P : Program} {w : World} {A : Around} {E : Value → Shared → Prop} {s : Shared} {a : Addr} {L : List (Addr × List Key)} {es : Array (Int × Value)} {ep : Nat} {t : SetTable}
theorem IsTup.other {h h' : Heap} {k : List Key} {b : Addr} {o : Obj} (hb : IsTup P w h k b) (ho : h.get? a = some o) (hd : o.data = .set es ep t) (sb : Heap.SameBut a h h') : IsTup P w h' k b := by
  obtain ⟨ob, its, n, hob, hc, hdat, hits⟩ := hb
  refine ⟨ob, its, n, (sb.2 b fun e => ?_).trans hob, hc, hdat, hits⟩
  rw [e, ho] at hob
  rw [← Option.some.inj hob, hd] at hdat
  cases hdat
theorem cut_perm {α : Type} (l : List α) (p : Nat) (x : α) : (l.take p ++ x :: l.drop p).Perm (x :: l) := by
  have h := (List.perm_middle (a := x) (l₁ := l.take p) (l₂ := l.drop p))
  rwa [List.take_append_drop] at h
theorem rows_len (L : List (Addr × List Key)) : (rowsT P w L).length = L.length := List.length_map _
theorem in_order (L : List (Addr × List Key)) (es : Array (Int × Value)) (hr : es.toList = rowsT P w L) : ∀ ord : List Nat, (∀ i ∈ ord, i < L.length) →
    ∃ L', ord.filterMap (fun i => es[i]?) = rowsT P w L' ∧ L' = ord.filterMap (fun i => L[i]?) ∧ (L'.map fun e => hashT P w e.2) = ord.map fun i => (es.map (·.1)).getD i 0
  | [], _ => ⟨[], rfl, rfl, rfl⟩
  | i :: ord, h => by
    obtain ⟨L', e1, e2, e3⟩ := in_order L es hr ord fun j hj => h j (List.mem_cons_of_mem _ hj)
    have il := h i List.mem_cons_self
    have q : L[i]? = some L[i] := List.getElem?_eq_getElem il
    have ent : es[i]? = some (hashT P w (L[i]).2, Value.ref (L[i]).1) := by
      rw [← Array.getElem?_toList, hr, rowsT, List.getElem?_map, q]
      rfl
    refine ⟨L[i] :: L', by rw [List.filterMap_cons_some ent, e1] <;> rfl, by rw [List.filterMap_cons_some q, e2], ?_⟩
    rw [List.map_cons, List.map_cons, e3]
    congr 1
    rw [Array.getD_eq_getD_getElem?, Array.getElem?_map, ent]
    rfl
theorem range_all {α : Type} (l : List α) : ∀ n, n ≤ l.length → (List.range n).filterMap (fun i => l[i]?) = l.take n
  | 0, _ => rfl
  | n + 1, h => by
    have q : l[n]? = some l[n] := List.getElem?_eq_getElem h
    rw [List.range_succ, List.filterMap_append, range_all l n (by omega), List.take_add_one, q, List.filterMap_cons_some q]
    rfl
/-- all laid anew in a wider table -/
theorem relay_tup {o : Obj} (ho : s.heap.get? a = some o) (hex : o.ExactSet) (hd : o.data = .set es ep t) (rows : es.toList = rowsT P w L) (pl : t.place.toList.length = L.length) (dm : t.dummies = #[]) (fit : L.length ≤ t.mask)
    (unlike : (L.map (·.2)).Nodup) (tups : ∀ e ∈ L, IsTup P w s.heap e.2 e.1) (led : w.params.followText "set-order" = true ∨ t.led = true) (few : L.length < 300) {want M : Nat} (eM : SetTable.sizeAbove want = M + 1) (hM : okM M) (room : L.length * 5 < M * 3) {Q : Unit → Shared → Prop}
    (k : ∀ h' L' es' ep' t', Heap.SameBut a s.heap h' → TupSet P w h' a L' es' ep' t' → L'.Perm L → Q () { s with heap := h' }) : wpAny (model P w) A (setRelay a want) Q E s := by
  have sz : es.size = L.length := by
    have := congrArg List.length rows
    rwa [Array.length_toList, rows_len] at this
  have M5 : M ≤ 511 := by rcases hM with e | e | e | e <;> omega
  obtain ⟨t', ord, e, perm, S, em, el⟩ := laid_anew t (hs := es.map (·.1)) (want := want) (M := M) (by omega) hM.round (by rw [Array.size_map, sz]; omega)
  rw [Array.size_map, sz] at perm
  obtain ⟨L', r1, r2, r3⟩ := in_order L es rows ord.toList fun i hi => List.mem_range.mp (perm.mem_iff.mp hi)
  have pL : L'.Perm L := by
    have := perm.filterMap fun i => L[i]?
    rw [← r2, range_all L _ (Nat.le_refl _), List.take_length] at this
    exact this
  rw [← r3] at S
  have tl : (ord.filterMap (es[·]?)).toList = rowsT P w L' := by rw [Array.toList_filterMap]; exact r1
  have sz' : (ord.filterMap (es[·]?)).size = L.length := by rw [← Array.length_toList, tl, rows_len, pL.length_eq]
  rw [setRelay_eq]
  refine wpAny_bind (wpAny_setState_of ho hd (fits_by (pl.trans sz.symm) dm (by omega)) ?_)
  dsimp only
  refine wp_if_neg (by rw [eM, sizeLine_eq]; omega) ?_
  try refine wpAny_bind (wpAny_pure ?_)
  rw [e]
  dsimp only
  refine wpAny_bind ?_
  refine wp_if_neg (by rw [sz', sz]; simp) ?_
  try refine wpAny_bind (wpAny_pure ?_)
  refine wpAny_pure ?_
  dsimp only
  refine wpAny_storeSet_of ho hd ?_ (by rw [sz', sizeLine_eq]; omega)
  have sb := Heap.SameBut.update s.heap a (Obj.putSet (ord.filterMap (es[·]?)) t')
  refine k _ L' _ (ep + 1) t' sb ⟨⟨_, store_at ho hd, ⟨hex.1, hex.2.1, hex.2.2⟩, rfl⟩, tl, S, by rw [em]; exact hM, (pL.map (·.2)).nodup_iff.mpr unlike, fun e he => (tups e (pL.mem_iff.mp he)).other ho hd sb, by rw [el]; exact led, by rw [pL.length_eq, em]; exact room, by rw [pL.length_eq]; exact few⟩ pL
theorem grow5 : SetTable.sizeAbove (SetTable.grown 5) = 31 + 1 := by decide +kernel
theorem grow19 : SetTable.sizeAbove (SetTable.grown 19) = 127 + 1 := by decide +kernel
theorem grow77 : SetTable.sizeAbove (SetTable.grown 77) = 511 + 1 := by decide +kernel
theorem tooFull_by {n : Nat} (h : t.fill = n) : t.tooFull = decide (n * 5 ≥ t.mask * 3) := by
  unfold SetTable.tooFull
  rw [h]
theorem add_tup (R : TupSet P w s.heap a L es ep t) {x : Addr} {k : List Key} (hx : IsTup P w s.heap k x) (hu : A.units < cLine) (more : L.length + 1 < 300) {Q : Bool → Shared → Prop}
    (q : ∀ b h' L' es' ep' t', Heap.SameBut a s.heap h' → TupSet P w h' a L' es' ep' t' → (k ∈ L.map (·.2) → L' = L) → (k ∉ L.map (·.2) → L'.Perm ((x, k) :: L)) → Q b { s with heap := h' }) :
    wpAny (model P w) A (setAddHashed a (.ref x) (hashT P w k)) Q E s := by
  obtain ⟨o, ho, hex, hd⟩ := R.there
  have room := R.room
  unfold setAddHashed
  refine wpAny_holding ?_
  rw [show (100000 : Nat) = 99999 + 1 from rfl, setAddHashedIn_succ]
  refine wpAny_bind (wpAny_setState_of ho hd R.fits ?_)
  dsimp only
  refine wp_if_neg (by simp [byScan, Value.scannable]) ?_
  try refine wpAny_bind (wpAny_pure ?_)
  refine wpAny_bind (find_tup R hx hu (fun hm => ?_) fun n hm out full => ?_)
  · dsimp only
    exact wpAny_pure (q false s.heap L es ep t (Heap.SameBut.refl a s.heap) R (fun _ => rfl) fun z => absurd hm z)
  · dsimp only
    refine wpAny_bind (wpAny_setState_of ho hd R.fits ?_)
    dsimp only
    obtain ⟨ple, S1, fl⟩ := R.seats.more out full
    have m1 : (t.put (way t.mask (hashT P w k) n)).1.mask = t.mask := rfl
    have l1 : (t.put (way t.mask (hashT P w k) n)).1.led = t.led := rfl
    have p1 : (t.put (way t.mask (hashT P w k) n)).2 = SetTable.below t.place (way t.mask (hashT P w k) n) := rfl
    rw [List.length_map] at fl ple
    generalize SetTable.below t.place (way t.mask (hashT P w k) n) = p at ple S1 p1
    generalize t.put (way t.mask (hashT P w k) n) = pt at S1 fl m1 l1 p1 ⊢
    obtain ⟨t1, p'⟩ := pt
    dsimp only at S1 fl m1 l1 p1 ⊢
    subst p1
    have rest : ∀ t2 : SetTable, t2.place = t1.place → t2.dummies = t1.dummies → t2.mask = t1.mask → t2.led = t1.led →
        wpAny (model P w) A (storeSet a (SetTable.insertAt es p' (hashT P w k, Value.ref x)) t2 >>= fun _ => if (!false && t2.tooFull) = true then setRelay a (SetTable.grown (es.size + 1)) >>= fun _ => pure true else pure true) Q E s := by
      intro t2 e1 e2 e3 e4
      have S2 : Seats t2 ((L.map fun e => hashT P w e.2).take p' ++ hashT P w k :: (L.map fun e => hashT P w e.2).drop p') := by
        obtain ⟨a1, a2, a3, a4, a5, a6⟩ := S1
        exact ⟨by rw [e1]; exact a1, by rw [e2]; exact a2, by rw [e1]; exact a3, by rw [e3]; exact a4, by rw [e1, e3]; exact a5, by rw [e1, e3]; exact a6⟩
      have fl2 : t2.fill = L.length + 1 := by
        rw [← fl]
        unfold SetTable.fill
        rw [e1, e2]
      have S2 : Seats t2 ((L.take p' ++ (x, k) :: L.drop p').map fun e => hashT P w e.2) := by
        rw [List.map_append, List.map_cons, List.map_take, List.map_drop]
        exact S2
      have pm := cut_perm L p' (x, k)
      have tl : (SetTable.insertAt es p' (hashT P w k, Value.ref x)).toList = rowsT P w (L.take p' ++ (x, k) :: L.drop p') := by
        rw [SetTable.toList_insertAt, R.rows]
        unfold rowsT
        rw [List.map_append, List.map_cons, List.map_take, List.map_drop]
      generalize SetTable.insertAt es p' (hashT P w k, Value.ref x) = es1 at tl
      generalize L.take p' ++ (x, k) :: L.drop p' = L1 at pm tl S2
      have len1 : L1.length = L.length + 1 := pm.length_eq
      have sz1 : es1.size = L.length + 1 := by rw [← Array.length_toList, tl, rows_len, len1]
      have un1 : (L1.map (·.2)).Nodup := (pm.map (·.2)).nodup_iff.mpr (List.nodup_cons.mpr ⟨hm, R.unlike⟩)
      refine wpAny_bind (wpAny_storeSet_of ho hd ?_ (by rw [sz1, sizeLine_eq]; omega))
      have sb := Heap.SameBut.update s.heap a (Obj.putSet es1 t2)
      have ho1 := store_at (es' := es1) (t' := t2) ho hd
      generalize s.heap.update a (Obj.putSet es1 t2) = h1 at sb ho1
      have tu1 : ∀ e ∈ L1, IsTup P w h1 e.2 e.1 := fun e he => by
        rcases List.mem_cons.mp (pm.mem_iff.mp he) with rfl | he
        · exact hx.other ho hd sb
        · exact (R.tups e he).other ho hd sb
      have led1 : w.params.followText "set-order" = true ∨ t2.led = true := by rw [e4, l1]; exact R.led
      rw [tooFull_by fl2, e3, m1]
      by_cases hf : (L.length + 1) * 5 ≥ t.mask * 3
      · rw [decide_eq_true hf]
        refine wp_if_pos rfl ?_
        have go : ∀ M, SetTable.sizeAbove (SetTable.grown (es.size + 1)) = M + 1 → okM M → (L.length + 1) * 5 < M * 3 → L.length + 1 ≤ t2.mask →
            wpAny (model P w) A (setRelay a (SetTable.grown (es.size + 1)) >>= fun _ => pure true) Q E { s with heap := h1 } := fun M g1 g2 g3 g4 =>
          wpAny_bind (relay_tup (s := { s with heap := h1 }) ho1 ⟨hex.1, hex.2.1, hex.2.2⟩ rfl tl (by rw [S2.many, List.length_map]) S2.none (by rw [len1]; exact g4) un1 tu1 led1 (by rw [len1]; exact more) g1 g2 (by rw [len1]; exact g3) fun h2 L2 es2 ep2 t3 sb2 R2 pm2 =>
            wpAny_pure (q true h2 L2 es2 ep2 t3 (sb.trans sb2) R2 (fun z => absurd z hm) fun _ => pm2.trans pm))
        rw [R.size] at go ⊢
        rcases R.mask with e | e | e | e
        · have : L.length = 4 := by rw [e] at room hf; omega
          exact go 31 (by rw [this]; exact grow5) (.inr (.inl rfl)) (by omega) (by rw [e3, m1, e]; omega)
        · have : L.length = 18 := by rw [e] at room hf; omega
          exact go 127 (by rw [this]; exact grow19) (.inr (.inr (.inl rfl))) (by omega) (by rw [e3, m1, e]; omega)
        · have : L.length = 76 := by rw [e] at room hf; omega
          exact go 511 (by rw [this]; exact grow77) (.inr (.inr (.inr rfl))) (by omega) (by rw [e3, m1, e]; omega)
        · rw [e] at hf
          omega
      · rw [decide_eq_false hf]
        refine wp_if_neg (by decide) ?_
        exact wpAny_pure (q true h1 L1 es1 (ep + 1) t2 sb ⟨⟨_, ho1, ⟨hex.1, hex.2.1, hex.2.2⟩, rfl⟩, tl, S2, by rw [e3, m1]; exact R.mask, un1, tu1, led1, by rw [len1, e3, m1]; omega, by rw [len1]; exact more⟩ (fun z => absurd z hm) fun _ => pm)
    by_cases hp : t1.plain = true
    · first
        | (refine wpAny_bind ?_; refine wp_if_pos hp ?_; refine tup_byValue hx fun c => ?_)
        | (refine wp_if_pos hp (wpAny_bind (tup_byValue hx fun c => ?_)))
      cases c with
      | true => exact rest t1 rfl rfl rfl rfl
      | false => exact rest { t1 with plain := false } rfl rfl rfl rfl
    · first
        | (refine wpAny_bind ?_; refine wp_if_neg hp ?_; refine wpAny_pure ?_)
        | (refine wp_if_neg hp ?_)
      exact rest t1 rfl rfl rfl rfl
end
end Yt

set_option Elab.async false
set_option linter.all false
set_option maxRecDepth 100000
set_option maxHeartbeats 2000000
namespace Yt
open PySem PySem.Spec PyProof.Rows L2
/-! ### sets of whatever is scanned, with what a walk over them needs -/
section
variable {P : Program} {w : World} {K : Type} [DecidableEq K] {knd : KeyKind P w K}
/-- the set at a, its table told, to be walked -/
structure Tab (knd : KeyKind P w K) (h : Heap) (a : Addr) (es : Array (Int × Value)) : Prop where
  ex : ∃ o ep t, h.get? a = some o ∧ o.ExactSet ∧ o.data = .set es ep t ∧ t.fits es.size = true ∧ Ris t.place.toList ∧ (w.params.followText "set-order" = true ∨ t.led = true)
  el : ElemsOf knd es.toList
  few : es.size < scanBound
theorem Tab.at {h h' : Heap} {a : Addr} {es : Array (Int × Value)} (T : Tab knd h a es) (k : ∀ o, h.get? a = some o → h'.get? a = some o) : Tab knd h' a es := by
  obtain ⟨o, ep, t, ho, r⟩ := T.ex
  exact ⟨⟨o, ep, t, k o ho, r⟩, T.el, T.few⟩
theorem Tab.there {h : Heap} {a : Addr} {es : Array (Int × Value)} (T : Tab knd h a es) : ∃ o, h.get? a = some o := by
  obtain ⟨o, ep, t, ho, r⟩ := T.ex
  exact ⟨o, ho⟩
variable {A : Around} {E : Value → Shared → Prop} {s : Shared} {a : Addr}
theorem tab_put {h : Heap} {o : Obj} {es es' : Array (Int × Value)} {ep : Nat} {t t' : SetTable} (ho : h.get? a = some o) (hx : o.ExactSet) (hd : o.data = .set es ep t) (el : ElemsOf knd es'.toList) (few : es'.size < scanBound)
    (f : t'.fits es'.size = true) (r : Ris t'.place.toList) (l : w.params.followText "set-order" = true ∨ t'.led = true) : ∃ o' ep', (h.update a (Obj.putSet es' t')).get? a = some o' ∧ o'.data = .set es' ep' t' ∧ o'.ExactSet ∧ Tab knd (h.update a (Obj.putSet es' t')) a es' := by
  have q := Heap.get?_update_self (Obj.putSet es' t') ho (by rw [putSet_of es' t' hd] <;> rfl)
  rw [putSet_of es' t' hd] at q
  exact ⟨_, ep + 1, q, rfl, hx, ⟨_, ep + 1, t', q, hx, rfl, f, r, l⟩, el, few⟩
/-- the end of an add: what is laid anew is what was laid -/
theorem tab_end {g : Bool → Sem Unit} (hg : ∀ (b : Bool) (u : Shared) (Z : Unit → Shared → Prop), Z () u → wpAny (model P w) A (g b) Z E u) {o : Obj} {es es1 : Array (Int × Value)} {ep : Nat} {t t2 : SetTable} {wd : Bool} {Z : Option Bool → Shared → Prop}
    (ho : s.heap.get? a = some o) (hx : o.ExactSet) (hd : o.data = .set es ep t) (el : ElemsOf knd es1.toList) (few : es1.size < scanBound) (f : t2.fits es1.size = true) (r : Ris t2.place.toList) (l : w.params.followText "set-order" = true ∨ t2.led = true)
    (k : ∀ h' es', Heap.SameBut a s.heap h' → Tab knd h' a es' → es'.toList.Perm es1.toList → Z (some true) { s with heap := h' }) :
    wpAny (model P w) A (storeSet a es1 t2 >>= fun _ => if (!wd && t2.tooFull) = true then (g (relayAll t2 es1 (SetTable.grown es1.size)).2.2 >>= fun _ => storeSet a (relayAll t2 es1 (SetTable.grown es1.size)).1 (relayAll t2 es1 (SetTable.grown es1.size)).2.1 >>= fun _ => pure (some true)) else pure (some true)) Z E s := by
  obtain ⟨o1, ep1, h1, d1, x1, T1⟩ := tab_put ho hx hd el few f r l
  have same := Heap.SameBut.update s.heap a (Obj.putSet es1 t2)
  refine wpAny_bind (wpAny_storeSet_of ho hd ?_ (fits_of_scanBound few))
  split
  · have p3 := relayAll_perm t2 es1 (SetTable.grown es1.size)
    have f3 := relayAll_fits t2 es1 (SetTable.grown es1.size)
    have r3 := relayAll_ris t2 es1 (SetTable.grown es1.size)
    have l3 := relayAll_led t2 es1 (SetTable.grown es1.size)
    revert p3 f3 r3 l3
    generalize relayAll t2 es1 (SetTable.grown es1.size) = W
    rcases W with ⟨es3, t3, gv⟩
    intro p3 f3 r3 l3
    have z3 : es3.size = es1.size := by simpa using p3.length_eq
    obtain ⟨_, _, _, _, _, T3⟩ := tab_put h1 x1 d1 (el.perm p3) (by rw [z3]; exact few) f3 r3 (l.imp id fun q => l3.trans q)
    exact wpAny_bind (hg _ _ _ (wpAny_bind (wpAny_storeSet_of h1 d1 (wpAny_pure (k _ es3 (same.trans (Heap.SameBut.update _ a _)) T3 p3)) (fits_of_scanBound (by rw [z3]; exact few)))))
  · exact wpAny_pure (k _ es1 same T1 (.refl _))
/-- one that is there stays alone; another one comes in somewhere -/
theorem tab_add {es : Array (Int × Value)} {k : K} {x : Value} {Z : Bool → Shared → Prop} (hk : knd.is k x = true) (hs : x.scannable = true) (T : Tab knd s.heap a es) (room : es.size + 1 < scanBound)
    (old : ∀ e ∈ es.toList, knd.is k e.2 = true → Z false s) (new : (∀ e ∈ es.toList, ¬ knd.is k e.2 = true) → ∀ h' es', Heap.SameBut a s.heap h' → Tab knd h' a es' → es'.toList.Perm ((knd.hash k, x) :: es.toList) → Z true { s with heap := h' }) :
    wpAny (model P w) A (setAddHashed a x (knd.hash k)) Z E s := by
  obtain ⟨o, ep, t, ho, hx, hd, hf, hr, hl⟩ := T.ex
  have gw : ∀ (b : Bool) (u : Shared) (Y : Unit → Shared → Prop), Y () u → wpAny (model P w) A (match b with | true => rule "set.scan.the-table-gave-way" | false => pure ()) Y E u := by
    rintro (_ | _) u Y q
    · exact wpAny_pure q
    · exact wpAny_rule q
  unfold setAddHashed setAddHashedIn; refine wpAny_holding (wpAny_bind (wpAny_setState_of ho hd hf ?_))
  show wpAny _ _ (if byScan x es = true then _ else _) _ _ _
  rw [byScan_of hs T.few T.el, if_pos rfl]; unfold setAddByScan
  refine wpAny_bind (wpAny_bind (wpAny_rule (wpAny_bind (wpAny_setScan_of hk ho hd hf T.el ?_))))
  cases hi : es.toList.findIdx? fun e => knd.is k e.2 with
  | some j =>
    obtain ⟨lt, pj, _⟩ := List.findIdx?_eq_some_iff_getElem.mp hi
    exact wpAny_pure (wpAny_pure (old _ (List.getElem_mem lt) pj))
  | none =>
    have non : ∀ e ∈ es.toList, ¬ knd.is k e.2 = true := fun e he => by simpa using List.findIdx?_eq_none_iff.mp hi e he
    have p1 := layNew_perm t es (knd.hash k) x
    have f1 := layNew_fits t es (knd.hash k) x
    have r1 := layNew_ris t es (knd.hash k) x hr
    have l1 := layNew_led t es (knd.hash k) x
    dsimp only
    generalize layNew t es (knd.hash k) x = W at p1 f1 r1 l1 ⊢
    rcases W with ⟨es1, t1, wd, gv⟩
    dsimp only at p1 f1 r1 l1 ⊢
    rw [Array.toList_push] at p1
    have z1 : es1.size = es.size + 1 := by simpa using p1.length_eq
    have e1 := (T.el.push hk hs).perm p1
    have led1 : w.params.followText "set-order" = true ∨ t1.led = true := hl.imp id fun q => l1.trans q
    have fin : ∀ h' es', Heap.SameBut a s.heap h' → Tab knd h' a es' → es'.toList.Perm es1.toList → Z true { s with heap := h' } := fun h' es' sb T' p' => new non h' es' sb T' ((p'.trans p1).trans (List.perm_append_singleton _ _))
    refine wpAny_bind (gw _ _ _ ?_)
    have few1 : es1.size < scanBound := by rw [z1]; exact room
    by_cases hp : t1.plain = true
    · rw [hp, if_pos rfl, hashByValue_scannable 8 hs]
      refine wpAny_bind (wpAny_pure ?_)
      cases plainKind x with
      | true => exact tab_end gw ho hx hd e1 few1 f1 r1 led1 fun h' es' sb T' p' => wpAny_pure (fin h' es' sb T' p')
      | false => exact tab_end gw ho hx hd e1 few1 (SetTable.fits_plain_off f1) r1 led1 fun h' es' sb T' p' => wpAny_pure (fin h' es' sb T' p')
    · rw [if_neg hp]
      exact wpAny_bind (wpAny_pure (tab_end gw ho hx hd e1 few1 f1 r1 led1 fun h' es' sb T' p' => wpAny_pure (fin h' es' sb T' p')))
end
end Yt

set_option Elab.async false
set_option linter.all false
set_option maxRecDepth 100000
set_option maxHeartbeats 2000000
namespace Yt
open PySem PySem.Spec PyProof.Rows L2
/-! ### sets of numbers and texts as tracked things -/
def keyOfV : Value → Key
  | .int i _ => .inl i
  | .str x _ => .inr x
  | _ => .inl 0
theorem keyOfV_of {k : Key} {u : Value} (r : RelV (kV k) u) : keyOfV u = k := by
  cases k with
  | inl i =>
    obtain ⟨t, rfl⟩ := r
    rfl
  | inr x =>
    obtain ⟨t, rfl⟩ := r
    rfl
def MemK (e : Int × Value) : Prop := ∃ k, RelV (kV k) e.2
theorem MemK.at {e : Int × Value} (h : MemK e) : RelV (kV (keyOfV e.2)) e.2 := by
  obtain ⟨k, r⟩ := h
  rw [keyOfV_of r]
  exact r
/-- the set at a: its members, in whatever order -/
def SetKAt (P : Program) (w : World) (h : Heap) (a : Addr) (ks : List Key) : Prop := ∃ es, Tab (mixKind P w) h a es ∧ (es.toList.map fun e => keyOfV e.2).Perm ks ∧ ks.Nodup ∧ ∀ e ∈ es.toList, MemK e
def SetKO (P : Program) (w : World) (a : Addr) (ks : List Key) : HO := .ext fun h => SetKAt P w h a ks
theorem setKO_ok {P : Program} {w : World} {H : Hp} {h : Heap} {a : Addr} {ks : List Key} (R : SetKAt P w h a ks) : ObjOk P w H h a (SetKO P w a ks) :=
  ⟨R, R.elim fun es z => z.1.there, fun h1 h2 p k => p.elim fun es z => ⟨es, z.1.at k, z.2⟩⟩
theorem setKO_at {X : Cx} {pins : List (Addr × Obj)} {σ : L2.St} {H : Hp} {s : Shared} {a : Addr} {ks : List Key} (I : Inv X pins σ H s) (ha : H a = some (SetKO X.prog X.w a ks)) : SetKAt X.prog X.w s.heap a ks := (I.hok a _ ha).1
abbrev fresh (w : World) : Obj := { cls := .type "set", dict := none, data := .set #[] 0 (.fresh 0 0 (!w.params.followText "set-order")) }
theorem setK_fresh {P : Program} {w : World} (h : Heap) : SetKAt P w (h.push (fresh w)) h.objs.size [] := by
  refine ⟨#[], ⟨⟨_, 0, _, Heap.get?_push_size _ rfl, ⟨rfl, rfl, rfl⟩, rfl, rfl, List.Pairwise.nil, ?_⟩, (fun e he => by simp at he), by decide⟩, .refl _, List.nodup_nil, fun e he => by simp at he⟩
  cases w.params.followText "set-order" with
  | false => exact .inr rfl
  | true => exact .inl rfl
/-! what comes in -/
open Classical in
noncomputable def putS (ks : List Key) (k : Key) : List Key := if k ∈ ks then ks else ks ++ [k]
def addK (P : Program) (w : World) (D : Addr) (y : V) (H : Hp) (N : Hp → Prop) : Prop := ∃ k ks, y = kV k ∧ H D = some (SetKO P w D ks) ∧ ks.length + 1 < scanBound ∧ N (upd H D (SetKO P w D (putS ks k)))
/-- what a set's add has to do for a comprehension -/
def Adds (P : Program) (w : World) (add : Addr → V → Hp → (Hp → Prop) → Prop) : Prop := ∀ (Y : Cx), Y.prog = P → Y.w = w → Y.A.units + 1 < cLine → ∀ {pins : List (Addr × Obj)} {σ : L2.St} {H : Hp} {s : Shared} {E : Value → Shared → Prop} {D : Addr} {y : V} {u : Value} {N : Hp → Prop} {Q : Value → Shared → Prop},
  Inv Y pins σ H s → RelV y u → add D y H N → (∀ t G, Inv Y pins σ G t → N G → Q .none t) → wpAny (model Y.prog Y.w) Y.A (call (.builtin "set.add") [.ref D, u]) Q E s
theorem addK_ok {P : Program} {w : World} : Adds P w (addK P w) := by
  rintro Y rfl rfl _ pins σ H s E D y u N Q I r ⟨k, ks, rfl, hD, room, n⟩ fin
  obtain ⟨es, T, pm, nd, mem⟩ := setKO_at I hD
  have sz : es.size = ks.length := by
    have := pm.length_eq
    rwa [List.length_map, Array.length_toList] at this
  have hT : s.TypeIs (.ref D) "set" := by
    obtain ⟨o, _, _, ho, hx, _⟩ := T.ex
    exact ⟨o, ho, hx.1⟩
  have put : ∀ (h' : Heap) (tk : Nat), Heap.SameBut D s.heap h' → SetKAt Y.prog Y.w h' D (putS ks k) → Q .none { s with heap := h', toks := tk } := fun h' tk sb new =>
    fin _ _ (I.write (e := D) (t' := tk) (by rw [hD]; trivial) (.inl rfl) (fun b o hb ho => (sb.2 b hb).trans ho) (new.elim fun es z => z.1.there) (setKO_ok new)) n
  refine wpAny_call_entry F.slot_set_add hT F.entry_set_add ?_ (F.args_set_add_2 _ _)
  unfold Builtin.«set.add» Builtin.Frozenset.oneOther; simp only [List.isEmpty_nil, bind_assoc]
  unfold Builtin.Frozenset.addrOf setAdd; refine wpAny_bind (wpAny_pure (wpAny_bind (wpAny_pure (wpAny_bind (wpAny_holding (wpAny_bind ((mixKind Y.prog Y.w).pyHash (kV_is r) ?_)))))))
  refine tab_add (s := { s with toks := s.toks + 1 }) (kV_is r) (key_scan r) T (by omega) (fun e he q => ?_) fun non h' es' sb T' p' => ?_
  · have ek : keyOfV e.2 = k := (mixKind Y.prog Y.w).inj e.2 _ _ (kV_is (mem e he).at) q
    have hk : k ∈ ks := pm.mem_iff.mp (List.mem_map.mpr ⟨e, he, ek⟩)
    refine wpAny_pure ⟨_, rfl, put s.heap _ (Heap.SameBut.refl D s.heap) ?_⟩
    unfold putS
    rw [if_pos hk]
    exact ⟨es, T, pm, nd, mem⟩
  · have hk : k ∉ ks := fun z => by
      obtain ⟨e, he, ek⟩ := List.mem_map.mp (pm.mem_iff.mpr z)
      exact non e he (by rw [← ek]; exact kV_is (mem e he).at)
    refine wpAny_pure ⟨_, rfl, put h' _ sb ?_⟩
    unfold putS
    rw [if_neg hk]
    have q := p'.map fun e : Int × Value => keyOfV e.2
    rw [List.map_cons] at q
    have e1 : keyOfV u = k := keyOfV_of r
    refine ⟨es', T', ?_, ?_, fun e he => ?_⟩
    · refine q.trans ?_
      show (keyOfV u :: _).Perm _
      rw [e1]
      exact (List.Perm.cons k pm).trans (List.perm_append_singleton k ks).symm
    · exact List.nodup_append.mpr ⟨nd, by simp, fun x hx y hy z => hk (by rw [List.mem_singleton.mp hy] at z; exact z ▸ hx)⟩
    · rcases List.mem_cons.mp (p'.mem_iff.mp he) with z | z
      · rw [z]
        exact ⟨k, r⟩
      · exact mem e z
/-! ### {elt for target in iter if ..} -/
def turnS (add : Addr → V → Hp → (Hp → Prop) → Prop) (g : TG) (tt : TT) (te : TE) (vs : List Nat) (σ : L2.St) (D : Addr) (x : V) (H : Hp) (N : Hp → Prop) : Prop :=
  g x (wipe σ vs) H fun σ2 H2 => wipe σ2 vs = wipe σ vs ∧ tt σ2 H2 fun c H3 => if c = true then te σ2 H3 fun y H4 => add D y H4 N else N H3
def goesS (add : Addr → V → Hp → (Hp → Prop) → Prop) (g : TG) (tt : TT) (te : TE) (vs : List Nat) (σ : L2.St) (J : It) (D : Addr) (W : Nat → Nat → Hp → Prop) (R : Hp → Prop) : Prop :=
  ∀ i m H, W i m H → (J.stop i H ∧ R H) ∨ (J.go i H ∧ ∃ N : Hp → Prop, (∀ H', N H' → ∃ m', m' < m ∧ W (i + 1) m' H') ∧ ∀ x H', J.yld i H x H' → turnS add g tt te vs σ D x H' N)
def tSC (new : Addr → HO) (add : Addr → V → Hp → (Hp → Prop) → Prop) (wi : TI) (g : TG) (tt : TT) (te : TE) (vs : List Nat) : TE := fun σ H Q =>
  wi σ H fun J H1 => ∀ D, H1 D = none → ∃ W : Nat → Nat → Hp → Prop, (∃ m, W 0 m (upd H1 D (new D))) ∧ goesS add g tt te vs σ J D W fun H2 => Q (.ref D) H2
section
variable {X : Cx} {new : Addr → HO} {add : Addr → V → Hp → (Hp → Prop) → Prop}
theorem sC_core {pins : List (Addr × Obj)} {s : Shared} {σ : L2.St} {H : Hp} {Q : VK} {ex tg it : Expr} {ifs : List Expr} {sc : Scope} {own : List (Str × Nat)} {p p' : Pos} {wi : TI} {g : TG} {tt : TT} {te : TE} {Qf : Value → Shared → Prop}
    (hnew : ∀ (h : Heap) (G : Hp), ObjOk X.prog X.w G (h.push (fresh X.w)) h.objs.size (new h.objs.size)) (hadd : Adds X.prog X.w add) (hu : X.A.units + 1 < cLine) (calm : X.calm = true) (nd : X.N.Nodup) (I : Inv X pins σ H s) (hi : PI X tg it wi) (ok : BlkOk X.N X.env.scope sc own)
    (hg : ∀ s H C cl fp, PG (X.blk s H sc (compEnvC sc cl C X.env) fp) tg g) (ht : ∀ s H C cl fp, PTs (X.blk s H sc (compEnvC sc cl C X.env) fp) ifs tt) (he : ∀ s H C cl fp, PE (X.blk s H sc (compEnvC sc cl C X.env) fp) ex te)
    (hs : ∀ x, foldedSetIterable it X.env x = pure x) (h : tSC new add wi g tt te (own.map (·.2)) σ H Q)
    (fin : ∀ D C t m H', Inv X pins σ H' t → Q (.ref D) H' → t.heap.Ns C m → FpOk X pins H' C → compPost (model X.prog X.w) X.A X.xe none Qf (.ref D) C (.ok .next) t) :
    wpAny (model X.prog X.w) X.A (comprehension (.SetComp ex [⟨tg, it, ifs, 0⟩] sc p) sc X.env p' (newSet (.type "set")) false (eval it X.env)) Qf X.xe s := by
  have clo : ∀ y ∈ sc.names, y.2 = .free → ∃ c, X.env.cells.lookup y.1 = some c := fun y hy e => (ok.free y hy e).elim (fun k => I.ok.has _ (.inl k)) fun k => I.ok.has _ (.inr k)
  refine wpAny_comprehension_free (use := none) rfl hs (closure_ok clo) ok.kind (fun y hy e => by rw [ok.uniq y hy, e]) (thn (hi.run pins s σ H _ I h) fun _ s1 hx => thn hx fun _ s2 ⟨a, fp, tn, J, H2, ea, I2, T, st2, f2, q⟩ => ?_)
  subst ea
  refine PpSet.newSet_ok (newEnv_comp ?_)
  obtain ⟨D, hD⟩ : ∃ D, D = s2.heap.objs.size := ⟨_, rfl⟩
  rw [← hD]
  have nD : H2 D = none := I2.hok.fresh (Nat.le_of_eq hD.symm)
  obtain ⟨W, ⟨m0, w0⟩, turn⟩ := q D nD
  have I3 : Inv X pins σ (upd H2 D (new D)) ⟨s2.heap.push (fresh X.w), s2.gens, s2.drawn, s2.toks, s2.os⟩ := by
    refine I2.laid (t' := s2.toks) (fun b o e => Heap.get?_push_of_some _ e) (Nat.le_of_eq hD.symm) ?_
    rw [hD]
    exact hnew s2.heap _
  have live : ∀ b ∈ fp, b < s2.heap.objs.size := fun b hb => (T.obj _ _ st2 b hb).elim fun o e => Heap.lt_size e.1
  have f3 : ∀ b ∈ fp, FpOk X pins (upd H2 D (new D)) b ∧ b < (s2.heap.push (fresh X.w)).objs.size := fun b hb =>
    ⟨⟨(upd_ne (by rw [hD]; exact Nat.ne_of_lt (live b hb))).trans (f2 b hb).1, (f2 b hb).2⟩, by rw [Heap.size_push]; exact Nat.lt_succ_of_lt (live b hb)⟩
  have st3 : tn 0 (s2.heap.push (fresh X.w)) := T.keep _ _ _ st2 fun b _ o e => Heap.get?_push_of_some _ e
  have I4 := block_start I3 ok nd f3
  generalize hs3 : (⟨s2.heap.push (fresh X.w), s2.gens, s2.drawn, s2.toks, s2.os⟩ : Shared) = s3 at I3 I4 ⊢
  have h3 : s3.heap = s2.heap.push (fresh X.w) := by rw [← hs3]
  rw [← h3] at f3 st3
  have pg := hg s3 (upd H2 D (new D)) s3.heap.objs.size (cellsFrom (s3.heap.objs.size + 1) sc.names (cloFrom X.env.cells sc.names [])) fp
  have pt := ht s3 (upd H2 D (new D)) s3.heap.objs.size (cellsFrom (s3.heap.objs.size + 1) sc.names (cloFrom X.env.cells sc.names [])) fp
  have pe := he s3 (upd H2 D (new D)) s3.heap.objs.size (cellsFrom (s3.heap.objs.size + 1) sc.names (cloFrom X.env.cells sc.names [])) fp
  have unt : ∀ b ∈ fp, (upd H2 D (new D)) b = none := fun b hb => (f3 b hb).1.1
  have goal : codeAny (model X.prog X.w) X.A (.compStart (.SetComp ex [⟨tg, it, ifs, 0⟩] sc p) 0 (.ref a) (.ref D) (compEnvC sc (cellsFrom (s3.heap.objs.size + 1) sc.names (cloFrom X.env.cells sc.names [])) s3.heap.objs.size X.env)) (compPost (model X.prog X.w) X.A X.xe none Qf (.ref D) s3.heap.objs.size) ({ s3 with heap := pushCells (s3.heap.push { cls := .type "dict", data := .dict #[] }) sc.names } : Shared) := by
    obtain ⟨ce, hce⟩ : ∃ c, c = compEnvC sc (cellsFrom (s3.heap.objs.size + 1) sc.names (cloFrom X.env.cells sc.names [])) s3.heap.objs.size X.env := ⟨_, rfl⟩
    rw [← hce] at I4 pg pt pe ⊢
    have cL : ce.locals = s3.heap.objs.size := by rw [hce] <;> rfl
    obtain ⟨H3, hH3⟩ : ∃ G, G = upd H2 D (new D) := ⟨_, rfl⟩
    rw [← hH3] at I3 I4 pg pt pe w0 unt f3
    generalize hs4 : ({ s3 with heap := pushCells (s3.heap.push { cls := .type "dict", data := .dict #[] }) sc.names } : Shared) = s4 at I4 ⊢
    have st4 : tn 0 s4.heap := T.keep _ _ _ st3 fun b _ o e => by
      rw [← hs4]
      exact pushCells_keeps _ _ _ _ (Heap.get?_push_of_some _ e)
    have pinned : ∀ {σ' : L2.St} {G : Hp} {t : Shared}, Inv (X.blk s3 H3 sc ce fp) [] σ' G t → (∀ b ∈ fp, G b = none) → ∀ b ∈ fp, FpOk (X.blk s3 H3 sc ce fp) [] G b := fun {σ' G t} J' hn b hb =>
      ⟨hn b hb, (J'.ok.exf b hb).1, J'.ok.exfs b hb, .inl hb, fun x c e => (J'.ok.exf b hb).2 x c e, fun r hr => absurd (show r ∈ ([] : List (Addr × Obj)) ++ [] from hr) (by simp)⟩
    have loop : codeAny (model X.prog X.w) X.A (.compLoop (.SetComp ex [⟨tg, it, ifs, 0⟩] sc p) 0 (.ref a) (.ref D) ce) (compPost (model X.prog X.w) X.A X.xe none Qf (.ref D) s3.heap.objs.size) s4 := by
      refine PpSet.compLoopS_any (fun n t => ∃ i G, Inv (X.blk s3 H3 sc ce fp) [] (wipe σ (own.map (·.2))) G t ∧ tn i t.heap ∧ (∀ b ∈ fp, G b = none) ∧ W i n G) ?_ m0 ⟨0, H3, I4, st4, unt, w0⟩
      rintro n t5 ⟨i, H5, I5, st5, n5, w5⟩
      rcases turn i n H5 w5 with ⟨stop, qq⟩ | ⟨go, N, hN, step⟩
      · refine thnF (T.done (X.blk s3 H3 sc ce fp) rfl rfl rfl calm i [] t5 _ H5 (fun _ _ => False) I5 (pinned I5 n5) st5 stop) fun r t6 ⟨hr, I6⟩ => ?_
        subst hr
        have nC : H5 s3.heap.objs.size = none := by
          have z : H5 ce.locals = none := I6.free
          rwa [cL] at z
        obtain ⟨mm, hn, _⟩ := I6.loc
        have hn' : t6.heap.Ns ce.locals mm := hn
        rw [cL] at hn'
        exact fin D s3.heap.objs.size t6 mm H5 (I3.call' (ch := fp) I6.os I6.base I6.hok I6.bare fun b hb => ⟨(f3 b hb).1.2.2.2.1, (f3 b hb).1.2.1, (f3 b hb).1.2.2.2.2.1, (f3 b hb).1.2.2.2.2.2⟩) qq hn' (I3.fpOk (Nat.le_refl _) nC)
      · refine thnF (T.item (X.blk s3 H3 sc ce fp) rfl rfl rfl calm i [] t5 _ H5 (fun _ _ => False) I5 (pinned I5 n5) st5 go) fun r t6 ⟨u, hr, h6⟩ => ?_
        subst hr
        refine thnF h6 fun _ t7 ⟨x, H7, I7, r7, y7, st7, n7⟩ => ?_
        refine thnF (pg.run _ t7 _ H7 x u _ (I7.pinned (pinned I7 n7) (T.obj _ _ st7)) r7 (step x H7 y7)) fun _ t8 ⟨σ8, H8, I8, hw8, q8⟩ => ?_
        refine thnF (pt.run _ t8 σ8 H8 _ I8 q8) fun b t9 ⟨H9, I9, q9⟩ => ?_
        have back : ∀ {t : Shared} {G : Hp}, Inv (X.blk s3 H3 sc ce fp) ([] ++ pinsAt fp t7.heap) σ8 G t → N G → ∃ m, m < n ∧ ∃ i G, Inv (X.blk s3 H3 sc ce fp) [] (wipe σ (own.map (·.2))) G t ∧ tn i t.heap ∧ (∀ b ∈ fp, G b = none) ∧ W i m G := fun {t G} J' nx => by
          obtain ⟨m', lt, w'⟩ := hN G nx
          have held : ∀ b ∈ fp, ∀ o, t7.heap.get? b = some o → t.heap.get? b = some o ∧ G b = none := fun b hb o e =>
            have z := J'.pin (b, o) (List.mem_append_right _ (List.mem_append_right _ (mem_pinsAt hb e)))
            ⟨z.1, z.2.1⟩
          refine ⟨m', lt, i + 1, G, (J'.unpinned (pins := [])).weak (by rw [← hw8, wipe_length]) (fun j v e => (wipe_some (hw8.symm ▸ e)).1), T.keep _ _ _ st7 fun b hb o e => (held b hb o e).1, fun b hb => ?_, w'⟩
          obtain ⟨o, e, _⟩ := T.obj _ _ st7 b hb
          exact (held b hb o e).2
        cases b with
        | false => exact back I9 q9
        | true => exact thnF (pe.run _ t9 σ8 H9 _ I9 q9) fun zk t10 ⟨yk, H10, I10, r10, q10⟩ => hadd (X.blk s3 H3 sc ce fp) rfl rfl hu I10 r10 q10 fun t G J' nx => back J' nx
    exact PpSet.codeAny_compStart_set loop (T.self X.A 0 _ _ _ st4 loop)
  exact goal
theorem pe_sC {ex tg it : Expr} {ifs : List Expr} {sc : Scope} {own : List (Str × Nat)} {p : Pos} {wi : TI} {g : TG} {tt : TT} {te : TE} (hnew : ∀ (h : Heap) (G : Hp), ObjOk X.prog X.w G (h.push (fresh X.w)) h.objs.size (new h.objs.size)) (hadd : Adds X.prog X.w add) (hu : X.A.units + 1 < cLine)
    (calm : X.calm = true) (nd : X.N.Nodup) (hi : PI X tg it wi) (ok : BlkOk X.N X.env.scope sc own)
    (hg : ∀ s H C cl fp, PG (X.blk s H sc (compEnvC sc cl C X.env) fp) tg g) (ht : ∀ s H C cl fp, PTs (X.blk s H sc (compEnvC sc cl C X.env) fp) ifs tt) (he : ∀ s H C cl fp, PE (X.blk s H sc (compEnvC sc cl C X.env) fp) ex te) (hs : ∀ x, foldedSetIterable it X.env x = pure x := by intro _; rfl) :
    PE X (.SetComp ex [⟨tg, it, ifs, 0⟩] sc p) (tSC new add wi g tt te (own.map (·.2))) := by
  refine ⟨fun pins s σ H Q I h => ?_⟩
  rw [PpSet.eval_SetComp]
  refine sC_core hnew hadd hu calm nd I hi ok hg ht he hs h fun D C t m H' I' q hn f => ⟨m, hn, fun h'' sb => ?_⟩
  obtain ⟨f0, f1, f2, f3, f4, f5⟩ := f
  exact ⟨.ref D, H', I'.turned (t' := t.toks) (fun b o hb e => (sb.2 b hb).trans e) f0 f1 f3 f4 f5, rfl, q⟩
/-- over a walk: Pv by the turn -/
theorem sC_it {J : It} {n : Nat} {G : Hp → Prop} {S : Nat → Hp → V → Hp → Prop} (wk : Walk J n G S) {g : TG} {tt : TT} {te : TE} {vs : List Nat} {σ : L2.St} {H1 : Hp} {D : Addr} {R : Hp → Prop} (Pv : Nat → Hp → Prop) (h0 : Pv 0 (upd H1 D (new D))) (hG : ∀ i H, i ≤ n → Pv i H → G H)
    (hs : ∀ i x H H', i < n → Pv i H → S i H x H' → turnS add g tt te vs σ D x H' (Pv (i + 1))) (hd : ∀ H, Pv n H → R H) :
    ∃ W : Nat → Nat → Hp → Prop, (∃ m, W 0 m (upd H1 D (new D))) ∧ goesS add g tt te vs σ J D W R := by
  refine ⟨fun i m H => m = n - i ∧ i ≤ n ∧ Pv i H, ⟨_, rfl, Nat.zero_le _, h0⟩, ?_⟩
  rintro i m H ⟨rfl, le, pv⟩
  rcases Nat.lt_or_ge i n with lt | ge
  · exact .inr ⟨wk.goes i H lt (hG i H le pv), Pv (i + 1), fun H' p' => ⟨n - (i + 1), by omega, rfl, lt, p'⟩, fun x H' y => hs i x H H' lt pv (wk.yields i H x H' lt (hG i H le pv) y)⟩
  · obtain rfl : i = n := Nat.le_antisymm le ge
    exact .inl ⟨wk.stops H (hG _ H le pv), hd H pv⟩
/-! ### sorted(s), s a set of texts -/
theorem strs_of : ∀ {us : List Value}, (∀ u ∈ us, ∃ x t, u = Value.str x t) → ∃ zs : List Str, StrsAre us zs ∧ us.map keyOfV = zs.map Sum.inr
  | [], _ => ⟨[], .nil, rfl⟩
  | u :: us, h => by
    obtain ⟨zs, h1, h2⟩ := strs_of (us := us) fun v hv => h v (List.mem_cons_of_mem _ hv)
    obtain ⟨x, t, rfl⟩ := h u List.mem_cons_self
    exact ⟨x :: zs, .cons _ _ h1, by rw [List.map_cons, List.map_cons, h2] <;> rfl⟩
theorem inr_perm {xs ys : List Str} (p : (xs.map (Sum.inr : Str → Key)).Perm (ys.map Sum.inr)) : xs.Perm ys := by
  have q := p.map fun k : Key => match k with | .inr x => x | .inl _ => ("" : Str)
  rw [List.map_map, List.map_map] at q
  have e : ((fun k : Key => match k with | .inr x => x | .inl _ => ("" : Str)) ∘ (Sum.inr : Str → Key)) = id := rfl
  rwa [e, List.map_id, List.map_id] at q
def rSortK (P : Program) (w : World) : List V → Hp → VK → Prop := fun vs H Q => ∃ (a : Addr) (zs : List Str), vs = [V.ref a] ∧ H a = some (SetKO P w a (zs.map Sum.inr)) ∧ zs.length < 64 ∧ ∀ (ys : List Str) (p : Addr), ys.Perm zs → sortedS ys = true → H p = none → Q (.ref p) (upd H p (.lst (ys.map V.str)))
theorem cr_sortK (calm : X.calm = true) : CallR X (.builtin "sorted") (rSortK X.prog X.w) := by
  rintro pins s σ H vs us Q I r ⟨a, zs, rfl, ha, few, q⟩
  obtain ⟨es, T, pm, nd, mem⟩ := setKO_at I ha
  obtain ⟨o, ep, t, ho, hx, hd, hf, hr, hl⟩ := T.ex
  rw [Vals.ref1 r]
  refine Calls.call_function_entry kind_sorted plain_sorted entry_sorted (args_sorted1 _) ?_
  unfold Builtin.«sorted»
  refine wpAny_bind (m := checkCount "sorted" 1 1 _) (wpAny_pure (wpAny_bind (collect_set (A := X.A.in1) (I.ok.hd calm) ⟨o, ho, hx.1, hd⟩ hf T.few hr hl fun s1 out k1 z1 g1 o1 p1 => ?_)))
  have I1 : Inv X pins σ H s1 := I.call' (ch := []) o1 (Un.kept k1) (I.hok.kept k1) (by rw [g1]; exact I.bare) fun _ z => nomatch z
  obtain ⟨xs, hS, ek⟩ := strs_of (us := out) fun u hu => by
    obtain ⟨e, he, rfl⟩ := List.mem_map.mp (p1.mem_iff.mp hu)
    have hk := pm.mem_iff.mp (List.mem_map.mpr ⟨e, he, rfl⟩)
    obtain ⟨x, _, ex⟩ := List.mem_map.mp hk
    have rr := (mem e he).at
    rw [← ex] at rr
    obtain ⟨t, et⟩ := rr
    exact ⟨x, t, et⟩
  have px : xs.Perm zs := by
    refine inr_perm ?_
    rw [← ek]
    have := p1.map keyOfV
    rw [List.map_map] at this
    exact this.trans pm
  have ol : out.length = zs.length := by rw [← px.length_eq, hS.length]
  refine wpAny_bind (wpAny_newList ?_ (by rw [ol, sizeLine_eq]; omega))
  have hoL : (s1.heap.push (seqObj "list" out.toArray 0)).get? s1.heap.objs.size = some (seqObj "list" out.toArray 0) := Heap.get?_push_size _ rfl
  refine wpAny_bind (wpAny_holding (wpAny_call_entry slot_list_sort ⟨_, hoL, rfl⟩ entry_list_sort
    (list_sort_treeK strKind_oneLt (s := { s1 with heap := s1.heap.push (seqObj "list" out.toArray 0) }) hoL hS.keysOf (fun v₁ v₂ rest e => keyKind_strs (by rw [← e]; exact hS)) (by rw [ol]; exact few) fun st' hp hs => ⟨_, rfl, ?_⟩) (args_list_sort _)))
  obtain ⟨ys, w1, w2, w3⟩ := sorted_out_str hS hp hs
  obtain ⟨e', he'⟩ := sortedHeap_at (vs := out) (out := (arrOf st').map (·.2)) hoL
  have small : (ys.map V.str).length ≤ sizeLine := by
    rw [List.length_map, w2.length_eq, px.length_eq, sizeLine_eq]
    omega
  refine wpAny_pure ⟨_, rfl, .ref s1.heap.objs.size, upd H s1.heap.objs.size (.lst (ys.map V.str)), I1.laid (t' := s1.toks) (fun b u e => ?_) (Nat.le_refl _) (show ObjOk X.prog X.w _ _ _ (.lst (ys.map V.str)) from ⟨small, ((arrOf st').map (·.2)).toList, e', vals_of_strs w1, by rw [Array.toArray_toList]; exact he'⟩), rfl, q ys _ (w2.trans px) w3 (I1.hok.fresh (Nat.le_refl _))⟩
  have hb : b < s1.heap.objs.size := Heap.lt_size e
  rw [sortedHeap_old (Nat.ne_of_lt hb) (by rw [size_push']; exact Nat.lt_succ_of_lt hb)]
  exact Heap.get?_push_of_some _ e
end
end Yt

set_option Elab.async false
set_option linter.all false
set_option maxRecDepth 100000
set_option maxHeartbeats 2000000
namespace Yt
open PySem PySem.Spec PyProof.Rows L2
/-! ### such a set as a tracked thing -/
/-- all of it but what its members are -/
def SetTAt (P : Program) (w : World) (h : Heap) (a : Addr) (L : List (Addr × List Key)) : Prop := ∃ (es : Array (Int × Value)) (ep : Nat) (t : SetTable), (∃ o, h.get? a = some o ∧ o.ExactSet ∧ o.data = .set es ep t) ∧ es.toList = rowsT P w L ∧ Seats t (L.map fun e => hashT P w e.2) ∧ okM t.mask ∧ (L.map (·.2)).Nodup ∧
  (w.params.followText "set-order" = true ∨ t.led = true) ∧ L.length * 5 < t.mask * 3 ∧ L.length < 300
def SetTO' (P : Program) (w : World) (a : Addr) (L : List (Addr × List Key)) : HO := .ext fun h => SetTAt P w h a L
abbrev Stand (H : Hp) (L : List (Addr × List Key)) : Prop := ∀ e ∈ L, H e.1 = some (.tup (e.2.map kV))
section
variable {P : Program} {w : World}
theorem TupSet.at_ {h : Heap} {a : Addr} {L : List (Addr × List Key)} {es : Array (Int × Value)} {ep : Nat} {t : SetTable} (R : TupSet P w h a L es ep t) : SetTAt P w h a L :=
  ⟨es, ep, t, R.there, R.rows, R.seats, R.mask, R.unlike, R.led, R.room, R.few⟩
theorem setT_with {h : Heap} {a : Addr} {L : List (Addr × List Key)} (R : SetTAt P w h a L) (tu : ∀ e ∈ L, IsTup P w h e.2 e.1) : ∃ es ep t, TupSet P w h a L es ep t := by
  obtain ⟨es, ep, t, h1, h2, h3, h4, h5, h6, h7, h8⟩ := R
  exact ⟨es, ep, t, h1, h2, h3, h4, h5, tu, h6, h7, h8⟩
theorem setT_ok {H : Hp} {h : Heap} {a : Addr} {L : List (Addr × List Key)} (R : SetTAt P w h a L) : ObjOk P w H h a (SetTO' P w a L) := by
  refine ⟨R, ?_, fun h1 h2 p k => ?_⟩
  · obtain ⟨_, _, _, ⟨o, ho, _⟩, _⟩ := R
    exact ⟨o, ho⟩
  · obtain ⟨es, ep, t, ⟨o, ho, r⟩, q⟩ := p
    exact ⟨es, ep, t, ⟨o, k o ho, r⟩, q⟩
theorem setT_new {h : Heap} {a : Addr} (ho : h.get? a = some (fresh w)) : TupSet P w h a [] #[] 0 (.fresh 0 0 (!w.params.followText "set-order")) := by
  refine ⟨⟨_, ho, ⟨rfl, rfl, rfl⟩, rfl⟩, rfl, ⟨List.Pairwise.nil, rfl, rfl, round7, (fun j hj => nomatch hj), fun hi => by simp at hi⟩, .inl rfl, List.nodup_nil, (fun e he => nomatch he), ?_, (show 0 * 5 < 7 * 3 by decide), (show 0 < 300 by decide)⟩
  show _ ∨ (!w.params.followText "set-order") = true
  cases w.params.followText "set-order" with
  | false => exact .inr rfl
  | true => exact .inl rfl
theorem setT_fresh (h : Heap) (G : Hp) : ObjOk P w G (h.push (fresh w)) h.objs.size (SetTO' P w h.objs.size []) :=
  setT_ok (setT_new (Heap.get?_push_size _ rfl)).at_
theorem stand_tups {H : Hp} {h : Heap} (hok : HOk P w H h) {L : List (Addr × List Key)} (st : Stand H L) : ∀ e ∈ L, IsTup P w h e.2 e.1 := fun e he => key_of hok (st e he)
end
theorem units_in1 {A : Around} (h : A.units + 1 < cLine) : A.in1.units < cLine := by
  show A.units + 1 < cLine
  exact h
/-- one more: it stays alone if its like is there -/
def addT (P : Program) (w : World) (D : Addr) (y : V) (H : Hp) (N : Hp → Prop) : Prop := ∃ (b : Addr) (k : List Key) (L : List (Addr × List Key)), y = .ref b ∧ H b = some (.tup (k.map kV)) ∧ H D = some (SetTO' P w D L) ∧ Stand H L ∧ L.length + 1 < 300 ∧
  ∀ L', (k ∈ L.map (·.2) → L' = L) → (k ∉ L.map (·.2) → L'.Perm ((b, k) :: L)) → N (upd H D (SetTO' P w D L'))
theorem addT_ok {P : Program} {w : World} : Adds P w (addT P w) := by
  rintro Y rfl rfl hu pins σ H s E D y u N Q I r ⟨b, k, L, rfl, hb, hD, st, few, n⟩ fin
  obtain rfl : u = Value.ref b := r
  have R0 : SetTAt Y.prog Y.w s.heap D L := (I.hok D _ hD).1
  obtain ⟨es, ep, t, R⟩ := setT_with R0 (stand_tups I.hok st)
  have hT : s.TypeIs (.ref D) "set" := by
    obtain ⟨o, ho, hx, _⟩ := R.there
    exact ⟨o, ho, hx.1⟩
  refine wpAny_call_entry F.slot_set_add hT F.entry_set_add ?_ (F.args_set_add_2 _ _)
  unfold Builtin.«set.add» Builtin.Frozenset.oneOther; simp only [List.isEmpty_nil, bind_assoc]
  unfold Builtin.Frozenset.addrOf setAdd
  refine wpAny_bind (wpAny_pure (wpAny_bind (wpAny_pure (wpAny_bind (wpAny_holding (wpAny_bind (wpAny_pyHash_tuple (units_in1 hu) (stand_tups I.hok (L := [(b, k)]) (fun e he => by rw [List.mem_singleton.mp he]; exact hb) _ (List.mem_singleton.mpr rfl)) ?_)))))))
  refine add_tup (A := Y.A.in1) (s := { s with toks := s.toks + (k.length + 1) }) R (stand_tups I.hok (L := [(b, k)]) (fun e he => by rw [List.mem_singleton.mp he]; exact hb) _ (List.mem_singleton.mpr rfl)) (units_in1 hu) few fun c h' L' es' ep' t' sb R' c1 c2 => ?_
  refine wpAny_pure ⟨_, rfl, ?_⟩
  exact fin _ _ (I.write (e := D) (t' := s.toks + (k.length + 1)) (by rw [hD]; trivial) (.inl rfl) (fun b o hb ho => (sb.2 b hb).trans ho) (by obtain ⟨o, ho, _⟩ := R'.there; exact ⟨o, ho⟩) (setT_ok R'.at_)) (n L' c1 c2)
end Yt

set_option Elab.async false
set_option linter.all false
set_option maxRecDepth 100000
set_option maxHeartbeats 3200000
namespace Yt
open PySem PySem.Spec PyProof.Rows L2
/-! ### set(xs), xs a list of tuples -/
/-- what the first i have brought in -/
structure Sofar (ks : List (Addr × List Key)) (i : Nat) (L : List (Addr × List Key)) : Prop where
  of : ∀ e ∈ L, e ∈ ks.take i
  all : ∀ e ∈ ks.take i, e.2 ∈ L.map (·.2)
  len : L.length ≤ i
theorem Sofar.step {ks L L' : List (Addr × List Key)} {i : Nat} {e : Addr × List Key} (g : Sofar ks i L) (h : ks[i]? = some e) (c1 : e.2 ∈ L.map (·.2) → L' = L) (c2 : e.2 ∉ L.map (·.2) → L'.Perm (e :: L)) : Sofar ks (i + 1) L' := by
  have nx : ks.take (i + 1) = ks.take i ++ [e] := by rw [List.take_add_one, h] <;> rfl
  by_cases c : e.2 ∈ L.map (·.2)
  · rw [c1 c]
    refine ⟨fun u hu => by rw [nx]; exact List.mem_append_left _ (g.of u hu), fun u hu => ?_, Nat.le_succ_of_le g.len⟩
    rw [nx] at hu
    rcases List.mem_append.mp hu with hu | hu
    · exact g.all u hu
    · rw [List.mem_singleton.mp hu]
      exact c
  · have pm := c2 c
    refine ⟨fun u hu => ?_, fun u hu => ?_, by rw [pm.length_eq]; exact Nat.succ_le_succ g.len⟩
    · rw [nx]
      rcases List.mem_cons.mp (pm.mem_iff.mp hu) with rfl | hu
      · exact List.mem_append_right _ (List.mem_singleton.mpr rfl)
      · exact List.mem_append_left _ (g.of u hu)
    · rw [nx] at hu
      refine (pm.map (·.2)).mem_iff.mpr ?_
      rcases List.mem_append.mp hu with hu | hu
      · exact List.mem_cons_of_mem _ (g.all u hu)
      · rw [List.mem_singleton.mp hu]
        exact List.mem_cons_self
section
variable {P : Program} {w : World} {A : Around} {E : Value → Shared → Prop} {s : Shared}
theorem IsTup.kept {h h' : Heap} {k : List Key} {b : Addr} (x : IsTup P w h k b) (keep : ∀ c o, h.get? c = some o → h'.get? c = some o) : IsTup P w h' k b := by
  obtain ⟨o, its, n, ho, r⟩ := x
  exact ⟨o, its, n, keep b o ho, r⟩
theorem TupSet.kept {h h' : Heap} {a : Addr} {L : List (Addr × List Key)} {es : Array (Int × Value)} {ep : Nat} {t : SetTable} (R : TupSet P w h a L es ep t) (ka : ∀ o, h.get? a = some o → h'.get? a = some o) (tu : ∀ e ∈ L, IsTup P w h' e.2 e.1) : TupSet P w h' a L es ep t := by
  obtain ⟨⟨o, ho, r⟩, h2, h3, h4, h5, _, h7, h8, h9⟩ := R
  exact ⟨⟨o, ka o ho, r⟩, h2, h3, h4, h5, tu, h7, h8, h9⟩
theorem brought {It : Addr} {fp wr : List Addr} {G : Array GenState → Array GenState → Prop} {n : Nat} {Pv : Nat → Value → Prop} {St : Nat → Shared → Prop} {R : Result → Shared → Prop}
    (W : WalksS P w A.in1 It fp wr G n Pv St) (D : Addr) (Df : D ∉ fp) (ks : List (Addr × List Key)) (en : n = ks.length) (few : ks.length < 300) (given : ∀ i v, Pv i v → ∃ e, ks[i]? = some e ∧ v = .ref e.1)
    (h0 : Heap) (tk : ∀ e ∈ ks, IsTup P w h0 e.2 e.1) (D0 : h0.get? D = none) (wr0 : ∀ b ∈ wr, h0.get? b = none) (hu : A.in1.units < cLine) :
    ∀ (left i : Nat) (s : Shared), n - i = left → i ≤ n → St i s → (∀ b o, h0.get? b = some o → s.heap.get? b = some o) → (∃ L es ep t, TupSet P w s.heap D L es ep t ∧ Sofar ks i L) →
      (∀ s' L es ep t, Moved (D :: wr) G s s' → TupSet P w s'.heap D L es ep t → Sofar ks n L → (∀ b o, h0.get? b = some o → s'.heap.get? b = some o) → R (.ok (.ret .none)) s') →
      codeAny (model P w) A (.builtin "set.update.loop" ⟨[.ref D, .ref It], []⟩) R s := by
  have Dw : D ∉ wr := fun h => Df (W.sub _ h)
  have wider : ∀ b ∈ wr, b ∈ D :: wr := fun b hb => List.mem_cons_of_mem _ hb
  have hold : ∀ {u u' : Shared}, Moved wr G u u' → (∀ b o, h0.get? b = some o → u.heap.get? b = some o) → ∀ b o, h0.get? b = some o → u'.heap.get? b = some o := fun mv kp b o e =>
    mv.heap b o (fun hb => by rw [wr0 b hb] at e; cases e) (kp b o e)
  have in_ks : ∀ {i : Nat} {L : List (Addr × List Key)}, Sofar ks i L → ∀ e ∈ L, e ∈ ks := fun g e he => List.mem_of_mem_take (g.of e he)
  intro left
  induction left with
  | zero =>
    intro i s el hi st kp ⟨L, es, ep, t, hD, g⟩ fin
    obtain rfl : i = n := by omega
    refine codeAny_builtin F.entry_set_update_loop ?_
    rw [Around.under_plainId F.plain_set_update_loop _]
    show wpAny (model P w) A.in1 (pyNext (.ref It) >>= _) _ _ s
    refine wpAny_bind (W.done s _ _ st fun u mv => ?_)
    show wpAny (model P w) A.in1 (ret Value.none) _ _ u
    have kp' := hold mv kp
    exact wpAny_pure (fin u L es ep t (mv.mono wider) (hD.kept (fun o e => mv.heap D o Dw e) fun e he => (tk e (in_ks g e he)).kept kp') g kp')
  | succ left ih =>
    intro i s el hi st kp ⟨L, es, ep, t, hD, g⟩ fin
    have lt : i < n := by omega
    refine codeAny_builtin F.entry_set_update_loop ?_
    rw [Around.under_plainId F.plain_set_update_loop _]
    show wpAny (model P w) A.in1 (pyNext (.ref It) >>= _) _ _ s
    refine wpAny_bind (W.item i s _ _ lt st fun v u hv st' mv => ?_)
    obtain ⟨e, he, rfl⟩ := given i v hv
    have kp' := hold mv kp
    have hD' : TupSet P w u.heap D L es ep t := hD.kept (fun o q => mv.heap D o Dw q) fun z hz => (tk z (in_ks g z hz)).kept kp'
    have hx : IsTup P w u.heap e.2 e.1 := (tk e (List.mem_of_getElem? he)).kept kp'
    show wpAny (model P w) A.in1 (holding [Value.ref e.1] (setAdd D (.ref e.1)) >>= _) _ _ u
    refine wpAny_bind (wpAny_holding ?_)
    unfold setAdd
    refine wpAny_holding (wpAny_bind (wpAny_pyHash_tuple hu hx ?_))
    refine add_tup (s := { u with toks := u.toks + (e.2.length + 1) }) hD' hx hu (by have := g.len; omega) fun c h' L' es' ep' t' sb hD2 c1 c2 => ?_
    have kp2 : ∀ b o, h0.get? b = some o → h'.get? b = some o := fun b o q => (sb.2 b (fun z => by rw [z, D0] at q; cases q)).trans (kp' b o q)
    refine wpAny_pure ⟨plainId_quiet F.plain_set_update_loop _, ih (i + 1) _ (by omega) lt (W.frame _ u _ _ st' (Nat.le_add_right _ _) fun b hb o q => ?_) kp2 ⟨L', es', ep', t', hD2, g.step he c1 c2⟩ fun u2 L2 es2 ep2 t2 mv2 hD3 g2 kp3 => ?_⟩
    · rw [sb.2 b fun z => Df (z ▸ hb)]
      exact q
    · refine fin u2 L2 es2 ep2 t2 (Moved.trans W.gtrans ((mv.mono wider).then_heap (Nat.le_add_right _ _) fun b o hb q => ?_) mv2) hD3 g2 kp3
      rw [sb.2 b fun z => hb (z ▸ List.mem_cons_self)]
      exact q
set_option maxRecDepth 100000 in
theorem set_of_tups {l : Addr} {items : Array Value} (ks : List (Addr × List Key)) {Q : Value → Shared → Prop} (calm : A.handled = none) (hl : s.heap.IsList l items) (hit : items.toList = ks.map fun e => Value.ref e.1) (tk : ∀ e ∈ ks, IsTup P w s.heap e.2 e.1) (few : ks.length < 300) (hu : A.units + 3 < cLine)
    (q : ∀ (h' : Heap) (tk : Nat) L es ep t, TupSet P w h' s.heap.objs.size L es ep t → Sofar ks ks.length L → (∀ b o, s.heap.get? b = some o → h'.get? b = some o) → Q (.ref s.heap.objs.size) { s with heap := h', toks := tk }) :
    wpAny (model P w) A (call (.type "set") [.ref l]) Q E s := by
  have isz : items.size = ks.length := by
    rw [← Array.length_toList, hit, List.length_map]
  obtain ⟨c, tl, hmro⟩ := F.called_set.mro
  have hmade := F.called_set.made
  have hsub := F.called_set.sub
  refine wpAny_call (codeAny_of_tree ?_)
  show wpAny (model P w) _ (callAny (.type "set") _) _ _ s
  refine wpAny_pure ⟨Code.quiet_builtin _ (by decide +kernel), codeAny_builtin F.entry_type_call ?_⟩
  rw [Around.under_plain (weight_type_call_type "set" [.ref l] []) rfl]
  have h1 := F.called_set.notType
  have h2 := F.called_set.canCreate
  have hct := F.typeCall_set_1 (.ref l)
  repeat (any_goals (first | assumption | wp_step))
  refine codeAny_mono (code_set_led1 (.ref l) (E := E) (Q₁ := fun ob s₁ => ob = .ref s.heap.objs.size ∧ s₁ = { s with heap := s.heap.push (fresh w) }) ⟨rfl, rfl⟩) fun r s₁ hr => ?_
  cases r with
  | error e => exact hr
  | ok fl =>
    cases fl with
    | ret ob =>
      obtain ⟨rfl, rfl⟩ := hr
      have hS : (s.heap.push (fresh w)).get? s.heap.objs.size = some (fresh w) := Heap.get?_push_size _ rfl
      have hT : Shared.TypeIs { s with heap := s.heap.push (fresh w) } (.ref s.heap.objs.size) "set" := ⟨_, hS, rfl⟩
      have hli := F.called_set.init.lookup
      have hbi := F.called_set.init.bind (.ref s.heap.objs.size)
      repeat (any_goals (first | assumption | wp_step))
      refine codeAny_mono (codeAny_call_builtin (R := wants (fun r s₂ => r = .none ∧ ∃ h' tk L es ep t, s₂ = { s with heap := h', toks := tk } ∧ TupSet P w h' s.heap.objs.size L es ep t ∧ Sofar ks ks.length L ∧
          (∀ b o, s.heap.get? b = some o → h'.get? b = some o)) E) F.called_set.init.plain F.entry_set_init (check_set_init_1 hT ?_)) fun r₂ s₂ hr₂ => ?_
      · obtain ⟨ol, hol, hcl, nl, hdl⟩ := hl
        obtain ⟨ocls, odict, odata, oslots⟩ := ol
        simp only at hcl hdl
        subst hcl; subst hdl
        have hol' : (s.heap.push (fresh w)).get? l = some { cls := .type "list", dict := odict, data := .seq items nl, slots := oslots } := Heap.get?_push_of_some _ hol
        have hsls := F.sub_list_set
        have hslf := F.sub_list_frozenset
        have hne : (Value.type "list" == Value.type "dict") = false := by decide
        have hl1 : (s.heap.push (fresh w)).IsList l items := ⟨_, hol', rfl, nl, rfl⟩
        unfold Builtin.«set.__init__» noKeywords Builtin.Frozenset.updateFrom
        generalize hPI : pyIter = PI
        wp_walk
        subst hPI
        refine wpAny_pyIter_list hl1 ?_
        refine wpAny_bind (wpAny_runValue ?_)
        have lS : l < s.heap.objs.size := Heap.lt_size hol
        have calm3 : A.in1.in1.in1.handled = none := by simp [calm]
        have z1 : (s.heap.push (fresh w)).objs.size = s.heap.objs.size + 1 := Heap.size_push ..
        have lI : l ≠ (s.heap.push (fresh w)).objs.size := by
          rw [z1]
          exact Nat.ne_of_lt (Nat.lt_succ_of_lt lS)
        have Df : s.heap.objs.size ∉ [(s.heap.push (fresh w)).objs.size, l] := by
          rw [z1]
          simp only [List.mem_cons, List.not_mem_nil, or_false, not_or]
          exact ⟨Nat.ne_of_lt (Nat.lt_succ_self _), Nat.ne_of_gt lS⟩
        have given : ∀ (i : Nat) (v : Value), items[i]? = some v → ∃ e, ks[i]? = some e ∧ v = .ref e.1 := fun i v hv => by
          rw [← Array.getElem?_toList, hit, List.getElem?_map] at hv
          obtain ⟨e, e1, e2⟩ := Option.map_eq_some_iff.mp hv
          exact ⟨e, e1, e2.symm⟩
        have beyond : ∀ b, s.heap.objs.size ≤ b → s.heap.get? b = none := fun b hb => by
          cases z : s.heap.get? b with
          | none => rfl
          | some o => exact absurd (Nat.lt_of_lt_of_le (Heap.lt_size z) hb) (Nat.lt_irrefl _)
        refine brought ((Walks.list calm3 _ l lI items).toS) s.heap.objs.size Df ks isz few given s.heap tk (beyond _ (Nat.le_refl _)) (fun b hb => beyond b (by rw [List.mem_singleton.mp hb, z1]; exact Nat.le_succ _)) hu (items.size - 0) 0 _ (by omega) (Nat.zero_le _)
          ⟨⟨_, Heap.get?_push_size _ rfl, rfl, rfl⟩, (hl1.push _)⟩ (fun b o e => Heap.get?_push_of_some _ (Heap.get?_push_of_some _ e)) ?first ?last
        case first =>
          exact ⟨[], #[], 0, _, setT_new (Heap.get?_push_of_some _ hS), ⟨(fun e he => nomatch he), (fun e he => by simp at he), Nat.le_refl _⟩⟩
        case last =>
          intro u L es ep t mv hD g kp
          obtain ⟨h', g2, d', tk', os'⟩ := u
          obtain rfl : g2 = s.gens := mv.gens
          obtain rfl : d' = s.drawn := mv.drawn
          obtain rfl : os' = s.os := mv.os
          refine wpAny_pure ?_
          show wpAny (model P w) _ (ret Value.none) _ _ _
          rw [isz] at g
          exact wpAny_pure ⟨rfl, h', tk', L, es, ep, t, rfl, hD, g, kp⟩
      · cases r₂ with
        | error e => exact hr₂
        | ok fl₂ =>
          cases fl₂ with
          | ret r =>
            obtain ⟨rfl, h', tk, L, es, ep, t, rfl, hD, g, kp⟩ := hr₂
            repeat (any_goals (first | assumption | wp_step))
            exact q _ _ _ _ _ _ hD g kp
          | _ => exact hr₂.elim
    | _ => exact hr.elim
end
theorem refs_at' : ∀ {ks : List (Addr × List Key)} {us : List Value}, Vals (ks.map fun e => V.ref e.1) us → us = ks.map fun e => Value.ref e.1
  | [], _, .nil => rfl
  | e :: ks, _, .cons r t => by
    cases r
    rw [refs_at' t]
    rfl
/-- set(xs) -/
def rSetT (K : PySem.W.Frag) (P : Program) (w : World) : List V → Hp → VK → Prop := fun xs H Q => ∃ (l : Addr) (ks : List (Addr × List Key)), xs = [V.ref l] ∧ SqL K H l (ks.map fun e => V.ref e.1) ∧ Stand H ks ∧ ks.length < 300 ∧
  ∀ a L, H a = none → (∀ e ∈ L, e ∈ ks) → (∀ e ∈ ks, e.2 ∈ L.map (·.2)) → (L.map (·.2)).Nodup → Q (.ref a) (upd H a (SetTO' P w a L))
theorem cr_setT {X : Cx} (calm : X.calm = true) (hu : X.A.units + 3 < cLine) : CallR X (.type "set") (rSetT X.K X.prog X.w) := by
  rintro pins s σ H xs us Q I r ⟨l, ks, rfl, hl, st, few, q⟩
  rw [Vals.ref1 r]
  obtain ⟨its, rv, pl, hz⟩ := I.list hl
  refine set_of_tups (P := X.prog) (w := X.w) ks (I.ok.hd calm) pl.isList (by simpa using refs_at' rv) (stand_tups I.hok st) few hu fun h' tk L es ep t R g k => ?_
  exact ⟨.ref s.heap.objs.size, upd H s.heap.objs.size (SetTO' X.prog X.w s.heap.objs.size L), I.laid (t' := tk) k (Nat.le_refl _) (setT_ok R.at_), rfl, q _ L (I.hok.fresh (Nat.le_refl _)) (fun e he => List.mem_of_mem_take (g.of e he)) (fun e he => g.all e (by rw [List.take_length]; exact he)) R.unlike⟩
end Yt

set_option Elab.async false
set_option linter.all false
set_option maxRecDepth 100000
set_option maxHeartbeats 2000000
namespace Yt
open PySem PySem.Spec PyProof.Rows L2
/-! ### rows of texts, as they ascend -/
def rlt : List Str → List Str → Bool
  | x :: xs, y :: ys => if x = y then rlt xs ys else ltCps x.cps.toList y.cps.toList
  | _, _ => false
theorem cps_eq {x y : Str} (h : x.cps.toList = y.cps.toList) : x = y := by
  cases x
  cases y
  simpa using h
theorem rlt_irr : ∀ x : List Str, rlt x x = false
  | [] => rfl
  | x :: xs => by
    show (if x = x then rlt xs xs else _) = false
    rw [if_pos rfl, rlt_irr xs]
theorem rlt_tot : ∀ {x y : List Str}, x.length = y.length → x ≠ y → rlt x y = false → rlt y x = true
  | [], [], _, h, _ => absurd rfl h
  | x :: xs, y :: ys, l, h, k => by
    have k : (if x = y then rlt xs ys else ltCps x.cps.toList y.cps.toList) = false := k
    show (if y = x then rlt ys xs else ltCps y.cps.toList x.cps.toList) = true
    by_cases e : x = y
    · rw [if_pos e] at k
      rw [if_pos e.symm]
      exact rlt_tot (Nat.succ.inj l) (fun q => h (by rw [e, q])) k
    · rw [if_neg e] at k
      rw [if_neg (Ne.symm e)]
      exact lt_tot _ _ (fun q => e (cps_eq (x := x) (y := y) (by first | exact q | exact q.symm))) k
theorem rlt_tr : ∀ {x y z : List Str}, rlt x y = true → rlt y z = true → rlt x z = true
  | [], _, _, h, _ => by cases h
  | _ :: _, [], _, h, _ => by cases h
  | _ :: _, _ :: _, [], _, h => by cases h
  | x :: xs, y :: ys, z :: zs, h, k => by
    have h : (if x = y then rlt xs ys else ltCps x.cps.toList y.cps.toList) = true := h
    have k : (if y = z then rlt ys zs else ltCps y.cps.toList z.cps.toList) = true := k
    show (if x = z then rlt xs zs else ltCps x.cps.toList z.cps.toList) = true
    by_cases e : x = y
    · subst e
      rw [if_pos rfl] at h
      by_cases f : x = z
      · rw [if_pos f] at k ⊢
        exact rlt_tr h k
      · rw [if_neg f] at k ⊢
        exact k
    · rw [if_neg e] at h
      by_cases f : y = z
      · subst f
        rw [if_neg e]
        exact h
      · rw [if_neg f] at k
        have t := lt_tr h k
        rw [if_neg (fun q => by rw [q, lt_irr] at t; cases t)]
        exact t
def Up (rs : List (List Str)) : Prop := rs.Pairwise fun a b => rlt a b = true
theorem Up.nodup {rs : List (List Str)} (h : Up rs) : rs.Nodup := List.Pairwise.imp (fun {a b} q e => by
  rw [e, rlt_irr] at q
  cases q) h
theorem up_uniq : ∀ {xs ys : List (List Str)}, Up xs → Up ys → xs.Perm ys → xs = ys
  | [], ys, _, _, p => (List.nil_perm.mp p).symm
  | x :: xs, [], _, _, p => absurd p.length_eq (by simp)
  | x :: xs, y :: ys, hx, hy, p => by
    have h1 := List.pairwise_cons.mp hx
    have h2 := List.pairwise_cons.mp hy
    have e : x = y := by
      rcases List.mem_cons.mp (p.mem_iff.mp List.mem_cons_self) with e | mx
      · exact e
      · rcases List.mem_cons.mp (p.mem_iff.mpr List.mem_cons_self) with e | my
        · exact e.symm
        · have := rlt_tr (h2.1 x mx) (h1.1 y my)
          rw [rlt_irr] at this
          cases this
    subst e
    rw [up_uniq h1.2 h2.2 ((List.perm_cons x).mp p)]
/-! ### as the machine compares them -/
def rowD (x : List Str) : PyData := .tuple (x.map PyData.str)
theorem row_lex : ∀ {x y : List Str}, x.length = y.length → PyProof.Rows.lexLt PyProof.Rows.itemOrd (PySem.W.keyToksAll (x.map PyData.str)) (PySem.W.keyToksAll (y.map PyData.str)) = rlt x y
  | [], [], _ => lex_irrefl _
  | x :: xs, y :: ys, l => by
    rw [List.map_cons, List.map_cons, PySem.W.dataLt_cons (by simp [PySem.W.alike]), row_lex (Nat.succ.inj l), PySem.W.dataLt_str]
    show _ = if x = y then rlt xs ys else ltCps x.cps.toList y.cps.toList
    rw [PyProof.Rows.ltCps_eq]
    by_cases e : x = y
    · subst e
      rw [if_pos rfl, if_pos (by simp [PyData.eqv])]
    · rw [if_neg e, if_neg (by simpa [PyData.eqv] using e)]
theorem row_lt {x y : List Str} (l : x.length = y.length) : PySem.W.dataLt (rowD x) (rowD y) = rlt x y := by
  unfold rowD
  rw [PySem.W.dataLt_tuple]
  exact row_lex l
theorem sorted_up {β : Type} {row : β → List Str} {d : Nat} {bs : List β} (len : ∀ b ∈ bs, (row b).length = d) (nd : (bs.map row).Nodup) : Up ((bs.mergeSort (PySem.W.dataLe false fun b => rowD (row b))).map row) := by
  have pm := List.mergeSort_perm bs (PySem.W.dataLe false fun b => rowD (row b))
  have pw := PySem.W.sort_pairwise (PySem.W.sortLe_total (PyProof.Rows.listOrd PyProof.Rows.itemOrd) false fun b : β => PySem.W.keyToks (rowD (row b))) bs
  have nd' : ((bs.mergeSort (PySem.W.dataLe false fun b => rowD (row b))).map row).Pairwise (· ≠ ·) := (pm.map row).nodup_iff.mpr nd
  unfold Up
  rw [List.pairwise_map] at nd' ⊢
  refine List.Pairwise.imp_of_mem ?_ (List.Pairwise.and pw nd')
  rintro a b ha hb ⟨h1, h2⟩
  have h1 : (!PySem.W.dataLt (rowD (row b)) (rowD (row a))) = true := h1
  have la := len a (pm.mem_iff.mp ha)
  have lb := len b (pm.mem_iff.mp hb)
  rw [row_lt (by rw [la, lb])] at h1
  exact rlt_tot (by rw [la, lb]) (Ne.symm h2) (by simpa using h1)
end Yt

set_option Elab.async false
set_option linter.all false
set_option maxRecDepth 100000
set_option maxHeartbeats 2000000
namespace Yt
open PySem PySem.Spec PyProof.Rows L2
/-! ### sorted(..) of rows: of a set, of a list, of a dict's keys -/
abbrev kR (x : List Str) : List Key := x.map Sum.inr
theorem kR_V (x : List Str) : (kR x).map kV = x.map V.str := by
  unfold kR
  rw [List.map_map]
  rfl
theorem kR_inj {x y : List Str} (h : kR x = kR y) : x = y := by
  have := congrArg (List.map fun k : Key => match k with | .inr z => z | .inl _ => ("" : Str)) h
  unfold kR at this
  rw [List.map_map, List.map_map] at this
  have e : ((fun k : Key => match k with | .inr z => z | .inl _ => ("" : Str)) ∘ (Sum.inr : Str → Key)) = id := rfl
  rwa [e, List.map_id, List.map_id] at this
abbrev keyed (M : List (Addr × List Str)) : List (Addr × List Key) := M.map fun e => (e.1, kR e.2)
section
variable {P : Program} {w : World} {A : Around} {E : Value → Shared → Prop} {s : Shared}
theorem reads_items {h : Heap} : ∀ {x : List Str} {vs : List Value}, ItemsAre (mixKind P w) (kR x) vs → ReadsAll h vs (x.map PyData.str) []
  | [], [], _ => .nil
  | [], _ :: _, h => nomatch h
  | _ :: _, [], h => nomatch h
  | z :: x, v :: vs, .cons h1 t => by
    rcases keyIs_shape (show keyIs (.inr z) v = true from h1) with ⟨i, t, e, _⟩ | ⟨y, tk, e, rfl⟩
    · cases e
    · cases e
      exact ReadsAll.cons (.str _ _) (reads_items t)
theorem reads_row {h : Heap} {b : Addr} {x : List Str} (hk : IsTup P w h (kR x) b) : Reads h (.ref b) (rowD x) [] := by
  obtain ⟨o, its, n, ho, hc, hd, hi⟩ := hk
  exact .tuple ho hc hd (reads_items hi)
theorem row_depth : ∀ x : List Str, PyData.depthAll (x.map PyData.str) = 0
  | [] => by simp only [List.map_nil, PyData.depthAll]
  | z :: x => by
    rw [List.map_cons, PyData.depthAll, row_depth x]
    simp [PyData.depth]
theorem alike_rows : ∀ x y : List Str, PySem.W.alikeAll (x.map PyData.str) (y.map PyData.str) = true
  | [], _ => by simp [PySem.W.alikeAll]
  | _ :: _, [] => by simp [PySem.W.alikeAll]
  | z :: x, v :: y => by
    rw [List.map_cons, List.map_cons, PySem.W.alikeAll, alike_rows x y]
    simp [PySem.W.alike]
theorem alike_all {M : List (Addr × List Str)} : PySem.W.AllAlike (M.map fun e => rowD e.2) :=
  PySem.W.AllAlike.of fun a b => by
    unfold rowD
    rw [PySem.W.alike]
    exact alike_rows a.2 b.2
theorem rows_sortable {M : List (Addr × List Str)} {d : Nat} (len : ∀ e ∈ M, e.2.length = d + 1) : PySem.W.Sortable (M.map fun e => rowD e.2) := by
  refine .inl fun y hy => ?_
  obtain ⟨e, he, rfl⟩ := List.mem_map.mp hy
  have l := len e he
  match h : e.2, l with
  | z :: x, _ => exact ⟨.str z, x.map PyData.str, rfl⟩
theorem each_refs {R : Value → Addr × List Str → Prop} : ∀ {M : List (Addr × List Str)}, (∀ e ∈ M, R (.ref e.1) e) → PySem.W.EachIs R (M.map fun e => Value.ref e.1) M
  | [], _ => .nil
  | e :: M, h => .cons (h e List.mem_cons_self) (each_refs fun u hu => h u (List.mem_cons_of_mem _ hu))
theorem refs_each : ∀ {out : List Value} {M : List (Addr × List Str)}, PySem.W.EachIs (fun v (e : Addr × List Str) => v = Value.ref e.1) out M → out = M.map fun e => Value.ref e.1
  | _, _, .nil => rfl
  | _, _, .cons h t => by rw [h, refs_each t] <;> rfl
theorem sort_in_place {l : Addr} {n d : Nat} {M : List (Addr × List Str)} {Q : Value → Shared → Prop} (ho : s.heap.get? l = some (seqObj "list" (M.map fun e => Value.ref e.1).toArray n)) (tu : ∀ e ∈ M, IsTup P w s.heap (kR e.2) e.1) (len : ∀ e ∈ M, e.2.length = d + 1) (nd : (M.map (·.2)).Nodup) (few : M.length ≤ sizeLine) (hu : A.units + 3 < cLine)
    (q : ∀ M' : List (Addr × List Str), M'.Perm M → Up (M'.map (·.2)) → Q .none { s with heap := sortedHeap s.heap l (M.map fun e => Value.ref e.1) (M'.map fun e => Value.ref e.1).toArray }) :
    wpAny (model P w) A (call (.builtin "list.sort") [.ref l]) Q E s := by
  refine PySem.W.list_sort_data (R := fun v e => v = Value.ref e.1) (enc := fun e : Addr × List Str => rowD e.2) ho (each_refs fun e he => rfl) (each_refs fun e he => ⟨[], reads_row (tu e he), by simp⟩) alike_all (rows_sortable len) few (fun e he => ?_) fun out lo each => ?_
  · unfold rowD
    rw [PyData.depth, row_depth]
    omega
  · have := refs_each each
    subst this
    have pm := List.mergeSort_perm M (PySem.W.dataLe false fun e : Addr × List Str => rowD e.2)
    exact q _ pm (sorted_up (d := d + 1) len nd)
end
theorem vals_rows : ∀ M : List (Addr × List Str), Vals (M.map fun e => V.ref e.1) (M.map fun e => Value.ref e.1)
  | [] => .nil
  | e :: M => .cons rfl (vals_rows M)
section
variable {X : Cx}
/-- what comes behind the collecting -/
theorem sorted_tail {pins : List (Addr × Obj)} {σ : L2.St} {H : Hp} {s1 : Shared} {Q : VK} {d : Nat} {M : List (Addr × List Str)} {E : Value → Shared → Prop} (I1 : Inv X pins σ H s1) (tu : ∀ e ∈ M, IsTup X.prog X.w s1.heap (kR e.2) e.1) (len : ∀ e ∈ M, e.2.length = d + 1) (nd : (M.map (·.2)).Nodup) (few : M.length < 300) (hu : X.A.units + 4 < cLine)
    (q : ∀ (M' : List (Addr × List Str)) (p : Addr), M'.Perm M → Up (M'.map (·.2)) → H p = none → Q (.ref p) (upd H p (.lst (M'.map fun e => V.ref e.1)))) :
    wpAny (model X.prog X.w) X.A.in1 (newList (M.map fun e => Value.ref e.1) >>= fun l => holding [l] (call (.builtin "list.sort") [l] []) >>= fun _ => ret l) (fun fin t => ∃ v, fin = Fin.done (Flow.ret v) ∧ EP X pins σ Q v t) E s1 := by
  have ml : M.length ≤ sizeLine := by
    rw [sizeLine_eq]
    omega
  refine wpAny_bind (wpAny_newList ?_ (by rw [List.length_map]; exact ml))
  have hoL : (s1.heap.push (seqObj "list" (M.map fun e => Value.ref e.1).toArray 0)).get? s1.heap.objs.size = some (seqObj "list" (M.map fun e => Value.ref e.1).toArray 0) := Heap.get?_push_size _ rfl
  refine wpAny_bind (wpAny_holding (sort_in_place (d := d) (s := { s1 with heap := s1.heap.push (seqObj "list" (M.map fun e => Value.ref e.1).toArray 0) }) hoL (fun e he => (tu e he).kept fun b o z => Heap.get?_push_of_some _ z) len nd ml (by show X.A.units + 1 + 3 < cLine; omega) fun M' pm up => ?_))
  obtain ⟨e', he'⟩ := sortedHeap_at (vs := M.map fun e => Value.ref e.1) (out := (M'.map fun e => Value.ref e.1).toArray) hoL
  refine wpAny_pure ⟨_, rfl, .ref s1.heap.objs.size, upd H s1.heap.objs.size (.lst (M'.map fun e => V.ref e.1)), I1.laid (t' := s1.toks) (fun b u e => ?_) (Nat.le_refl _) (show ObjOk X.prog X.w _ _ _ (.lst _) from ⟨by rw [List.length_map, pm.length_eq]; exact ml, _, e', vals_rows M', by simpa using he'⟩), rfl, q M' _ pm up (I1.hok.fresh (Nat.le_refl _))⟩
  have hb : b < s1.heap.objs.size := Heap.lt_size e
  rw [sortedHeap_old (Nat.ne_of_lt hb) (by rw [size_push']; exact Nat.lt_succ_of_lt hb)]
  exact Heap.get?_push_of_some _ e
end
end Yt

set_option Elab.async false
set_option linter.all false
set_option maxRecDepth 100000
set_option maxHeartbeats 2000000
namespace Yt
open PySem PySem.Spec PyProof.Rows L2
section
variable {X : Cx}
theorem out_perm {out : List Value} {M : List (Addr × List Str)} (p : out.Perm (M.map fun e => Value.ref e.1)) : ∃ M' : List (Addr × List Str), out = (M'.map fun e => Value.ref e.1) ∧ M'.Perm M := map_perm' p M rfl
where
  map_perm' {xs zs : List Value} (hp : xs.Perm zs) : ∀ (ts : List (Addr × List Str)), zs = (ts.map fun e => Value.ref e.1) → ∃ ts' : List (Addr × List Str), xs = (ts'.map fun e => Value.ref e.1) ∧ ts'.Perm ts := by
    induction hp with
    | nil =>
      intro ts e
      cases ts with
      | nil => exact ⟨[], rfl, List.Perm.refl _⟩
      | cons t ts => cases e
    | cons x _ ih =>
      intro ts e
      cases ts with
      | nil => cases e
      | cons t ts =>
        rw [List.map_cons, List.cons.injEq] at e
        obtain ⟨ts', e1, p1⟩ := ih _ e.2
        exact ⟨t :: ts', by rw [e.1, e1] <;> rfl, .cons _ p1⟩
    | swap x y l =>
      intro ts e
      match ts with
      | [] => cases e
      | [_] => cases e
      | t :: u :: ts =>
        rw [List.map_cons, List.map_cons, List.cons.injEq, List.cons.injEq] at e
        exact ⟨u :: t :: ts, by rw [e.1, e.2.1, e.2.2] <;> rfl, .swap _ _ _⟩
    | trans _ _ ih1 ih2 =>
      intro ts e
      obtain ⟨ts2, e2, p2⟩ := ih2 _ e
      obtain ⟨ts1, e1, p1⟩ := ih1 _ e2
      exact ⟨ts1, e1, p1.trans p2⟩
/-- the rows M stand in the heap, all of one width -/
structure RowsIn (H : Hp) (d : Nat) (M : List (Addr × List Str)) : Prop where
  at_ : ∀ e ∈ M, H e.1 = some (.tup (e.2.map V.str))
  len : ∀ e ∈ M, e.2.length = d + 1
  few : M.length < 300
theorem RowsIn.stand {H : Hp} {d : Nat} {M : List (Addr × List Str)} (R : RowsIn H d M) : Stand H (keyed M) := fun e he => by
  obtain ⟨u, hu, rfl⟩ := List.mem_map.mp he
  show H u.1 = some (.tup ((kR u.2).map kV))
  rw [kR_V]
  exact R.at_ u hu
theorem RowsIn.perm {H : Hp} {d : Nat} {M M' : List (Addr × List Str)} (R : RowsIn H d M) (p : M'.Perm M) : RowsIn H d M' := ⟨fun e he => R.at_ e (p.mem_iff.mp he), fun e he => R.len e (p.mem_iff.mp he), by rw [p.length_eq]; exact R.few⟩
theorem RowsIn.to {H H' : Hp} {d : Nat} {M : List (Addr × List Str)} (R : RowsIn H d M) (s : Same H H') : RowsIn H' d M := ⟨fun e he => s _ _ (R.at_ e he), R.len, R.few⟩
theorem RowsIn.tups {P : Program} {w : World} {H : Hp} {h : Heap} {d : Nat} {M : List (Addr × List Str)} (R : RowsIn H d M) (hok : HOk P w H h) : ∀ e ∈ M, IsTup P w h (kR e.2) e.1 := fun e he =>
  stand_tups hok R.stand (e.1, kR e.2) (List.mem_map.mpr ⟨e, he, rfl⟩)
/-- what sorted tells of rows -/
abbrev SortedQ (H : Hp) (M : List (Addr × List Str)) (Q : VK) : Prop := ∀ (M' : List (Addr × List Str)) (p : Addr), M'.Perm M → Up (M'.map (·.2)) → H p = none → Q (.ref p) (upd H p (.lst (M'.map fun e => V.ref e.1)))
def rSortSet (P : Program) (w : World) : List V → Hp → VK → Prop := fun vs H Q => ∃ (a : Addr) (M : List (Addr × List Str)) (d : Nat), vs = [V.ref a] ∧ H a = some (SetTO' P w a (keyed M)) ∧ RowsIn H d M ∧ SortedQ H M Q
theorem cr_sortSet (calm : X.calm = true) (hu : X.A.units + 4 < cLine) : CallR X (.builtin "sorted") (rSortSet X.prog X.w) := by
  rintro pins s σ H vs us Q I r ⟨a, M, d, rfl, ha, R, q⟩
  obtain ⟨es, ep, t, T⟩ := setT_with (I.hok a _ ha).1 (stand_tups I.hok R.stand)
  obtain ⟨o, ho, hx, hd⟩ := T.there
  rw [Vals.ref1 r]
  refine Calls.call_function_entry kind_sorted plain_sorted entry_sorted (args_sorted1 _) ?_
  unfold Builtin.«sorted»
  refine wpAny_bind (m := checkCount "sorted" 1 1 _) (wpAny_pure (wpAny_bind (collect_set (A := X.A.in1) (I.ok.hd calm) ⟨o, ho, hx.1, hd⟩ T.fits (by rw [T.size]; exact Nat.lt_of_lt_of_le T.few (by decide)) T.seats.up T.led fun s1 out k1 z1 g1 o1 p1 => ?_)))
  have I1 : Inv X pins σ H s1 := I.call' (ch := []) o1 (Un.kept k1) (I.hok.kept k1) (by rw [g1]; exact I.bare) fun _ z => nomatch z
  have eo : (es.toList.map (·.2)) = M.map fun e => Value.ref e.1 := by
    rw [T.rows, rowsT, List.map_map, List.map_map]
    rfl
  rw [eo] at p1
  obtain ⟨M1, rfl, pm⟩ := out_perm p1
  have R1 := R.perm pm
  have nd : (M1.map (·.2)).Nodup := by
    refine (pm.map (·.2)).nodup_iff.mpr ?_
    have u := T.unlike
    rw [List.map_map] at u
    refine List.Pairwise.of_map (R := (· ≠ ·)) (S := (· ≠ ·)) kR (fun x y n e => n (congrArg kR e)) ?_
    rw [List.map_map]
    exact u
  exact sorted_tail (d := d) I1 (R1.tups I1.hok) R1.len nd R1.few hu (fun M' p pm' up np => q M' p (pm'.trans pm) up np)
theorem units_le {a b n : Nat} (h : n + b < cLine) (l : a ≤ b) : n + a < cLine := by omega
/-- sorted(xs), xs a list of unlike rows -/
def rSortList (K : PySem.W.Frag) : List V → Hp → VK → Prop := fun vs H Q => ∃ (a : Addr) (M : List (Addr × List Str)) (d : Nat), vs = [V.ref a] ∧ SqL K H a (M.map fun e => V.ref e.1) ∧ RowsIn H d M ∧ (M.map (·.2)).Nodup ∧ SortedQ H M Q
theorem refs_back : ∀ {M : List (Addr × List Str)} {us : List Value}, Vals (M.map fun e => V.ref e.1) us → us = M.map fun e => Value.ref e.1
  | [], _, .nil => rfl
  | e :: M, _, .cons r t => by
    cases r
    rw [refs_back t]
    rfl
theorem cr_sortList (calm : X.calm = true) (hu : X.A.units + 4 < cLine) : CallR X (.builtin "sorted") (rSortList X.K) := by
  rintro pins s σ H vs us Q I r ⟨a, M, d, rfl, ha, R, nd, q⟩
  obtain ⟨its, rv, pl, hz⟩ := I.list ha
  obtain rfl := refs_back rv
  rw [Vals.ref1 r]
  refine Calls.call_function_entry kind_sorted plain_sorted entry_sorted (args_sorted1 _) ?_
  unfold Builtin.«sorted»
  refine wpAny_bind (m := checkCount "sorted" 1 1 _) (wpAny_pure (wpAny_bind (collect_list (A := X.A.in1) pl.isList ?_ (by rw [List.length_map]; have := R.few; rw [sizeLine_eq]; omega))))
  have I1 : Inv X pins σ H { s with heap := (s.heap.push (seqObj "list" #[] 0)).update s.heap.objs.size (Obj.mapSeq (· ++ (M.map fun e => Value.ref e.1).toArray)), toks := s.toks } := I.kept fun b o e => by
    rw [Heap.get?_update_ne _ _ _ _ (Nat.ne_of_lt (Heap.lt_size e))]
    exact Heap.get?_push_of_some _ e
  exact sorted_tail (d := d) I1 (R.tups I1.hok) R.len nd R.few hu q
/-- sorted(d), d a dict whose keys are rows -/
def rSortDict : List V → Hp → VK → Prop := fun vs H Q => ∃ (a : Addr) (kvs : List (List Key × V)) (d : Nat), vs = [V.ref a] ∧ H a = some (.dT kvs) ∧ (kvs.map (·.1)).Nodup ∧ kvs.length < 300 ∧ (∀ e ∈ kvs, ∃ x : List Str, e.1 = kR x ∧ x.length = d + 1) ∧
  ∀ M : List (Addr × List Str), (M.map fun e => kR e.2) = kvs.map (·.1) → RowsIn H d M → SortedQ H M Q
theorem cr_sortDict (calm : X.calm = true) (hu : X.A.units + 4 < cLine) : CallR X (.builtin "sorted") rSortDict := by
  rintro pins s σ H vs us Q I r ⟨a, kvs, d, rfl, ha, nd, few, form, q⟩
  obtain ⟨z, hs, ks, pr, o, es, ep, ho, hx, hdt, he, hn⟩ := (show ObjOk X.prog X.w H s.heap a (.dT kvs) from I.hok _ _ ha)
  have l1 : es.size = ks.length := size_of_entries he
  have l2 : kvs.length = ks.length := Paired.length pr
  rw [Vals.ref1 r]
  refine Calls.call_function_entry kind_sorted plain_sorted entry_sorted (args_sorted1 _) ?_
  unfold Builtin.«sorted»
  refine wpAny_bind (m := checkCount "sorted" 1 1 _) (wpAny_pure (wpAny_bind (PySem.W.kdu_collect (A := X.A.in1) (kdl_raw hs hx hdt) (I.ok.hd calm) ho (by rw [sizeLine_eq]; omega) fun h' tk acc keep got => ?_)))
  have ea : acc.toList = ks.map fun x => Value.ref x.2.1 := by
    have hl : acc.toList.length = ks.length := by rw [Array.length_toList, got.1, l1]
    refine List.ext_getElem? fun j => ?_
    rw [List.getElem?_map]
    cases hj : acc.toList[j]? with
    | none =>
      rw [List.getElem?_eq_none (by have := List.getElem?_eq_none_iff.mp hj; omega)]
      rfl
    | some v =>
      obtain ⟨en, hen, hv⟩ := got.2 j v (by rw [← Array.getElem?_toList]; exact hj)
      have qe := entry_at he j
      rw [hen] at qe
      cases hb : ks[j]? with
      | none =>
        rw [hb] at qe
        cases qe
      | some b =>
        rw [hb] at qe
        obtain rfl : en = entryOfKey (tupleKind (mixKind X.prog X.w)) b := Option.some.inj qe
        rw [hv]
        rfl
  have ik := isKeys_of pr
  obtain ⟨M, e1, e2, R⟩ : ∃ M : List (Addr × List Str), (M.map fun e => kR e.2) = kvs.map (·.1) ∧ (ks.map fun x => x.2.1) = M.map (·.1) ∧ RowsIn H d M := by
    have go : ∀ (kvs : List (List Key × V)) (bs : List Addr), IsKeys H kvs bs → (∀ e ∈ kvs, ∃ x : List Str, e.1 = kR x ∧ x.length = d + 1) →
        ∃ M : List (Addr × List Str), (M.map fun e => kR e.2) = kvs.map (·.1) ∧ bs = M.map (·.1) ∧ (∀ e ∈ M, H e.1 = some (.tup (e.2.map V.str))) ∧ ∀ e ∈ M, e.2.length = d + 1 := by
      intro kvs bs h
      induction h with
      | nil => exact fun _ => ⟨[], rfl, rfl, (fun e he => nomatch he), fun e he => nomatch he⟩
      | cons h1 _ ih =>
        intro fm
        obtain ⟨M, a1, a2, a3, a4⟩ := ih fun e he => fm e (List.mem_cons_of_mem _ he)
        obtain ⟨x, ex, lx⟩ := fm _ List.mem_cons_self
        refine ⟨(_, x) :: M, by rw [List.map_cons, List.map_cons, a1, ex], by rw [List.map_cons, a2], fun e he => ?_, fun e he => ?_⟩
        · rcases List.mem_cons.mp he with rfl | he
          · rw [ex, kR_V] at h1
            exact h1
          · exact a3 e he
        · rcases List.mem_cons.mp he with rfl | he
          · exact lx
          · exact a4 e he
    obtain ⟨M, a1, a2, a3, a4⟩ := go _ _ ik form
    refine ⟨M, a1, a2, a3, a4, ?_⟩
    have := congrArg List.length a1
    rw [List.length_map, List.length_map] at this
    omega
  have eb : acc.toList = M.map fun e => Value.ref e.1 := by
    have := congrArg (List.map Value.ref) e2
    rw [List.map_map, List.map_map] at this
    rw [ea]
    exact this
  have I1 : Inv X pins σ H { s with heap := h', toks := tk } := I.kept keep
  have nd' : (M.map (·.2)).Nodup := by
    rw [← e1] at nd
    refine List.Pairwise.of_map (R := (· ≠ ·)) (S := (· ≠ ·)) kR (fun x y n e => n (congrArg kR e)) ?_
    rw [List.map_map]
    exact nd
  rw [eb]
  exact sorted_tail (d := d) I1 (R.tups I1.hok) R.len nd' R.few hu (q M e1 R)
end
end Yt

set_option Elab.async false
set_option linter.all false
set_option maxRecDepth 100000
set_option maxHeartbeats 2000000
namespace Yt
open PySem PySem.Spec PyProof.Rows L2
/-! ### the class Table -/
abbrev sTable : Stmt := top 16
abbrev sIsRow : Stmt := top 17
abbrev sCheckWidth : Stmt := top 18
abbrev sTInit : Stmt := inClass sTable 0
abbrev sTMarks : Stmt := inClass sTable 1
abbrev sTWidth : Stmt := inClass sTable 2
abbrev sTRows : Stmt := inClass sTable 3
abbrev sTEq : Stmt := inClass sTable 4
abbrev MethP (K : PySem.W.Frag) (x : Str) (st : Stmt) (f : Addr) (fd : FuncData) : Prop := FunD K x (("Table." : Str) ++ x) (defArgs st) (defBody st) (defScope st) [] [] f fd
def tf (A : Addr) (w : Int) (R : Addr) : List (Str × V) := [("_marks", .ref A), ("_width", .int w), ("_rows", .ref R)]
theorem nMW : ¬ (("_marks" : Str) = "_width") := by decide +kernel
theorem nMR : ¬ (("_marks" : Str) = "_rows") := by decide +kernel
theorem nWR : ¬ (("_width" : Str) = "_rows") := by decide +kernel
theorem tf_make (A : Addr) (w : Int) (R : Addr) : putF "_rows" (.ref R) (putF "_width" (.int w) (putF "_marks" (.ref A) [])) = tf A w R := by
  show (if ("_marks" : Str) = "_rows" then _ else _) = _
  have e1 : putF "_width" (.int w) (putF "_marks" (.ref A) []) = [(("_marks" : Str), V.ref A), (("_width" : Str), V.int w)] := by
    show (if ("_marks" : Str) = "_width" then [(("_marks" : Str), V.int w)] else (("_marks" : Str), V.ref A) :: putF "_width" (V.int w) []) = _
    rw [if_neg nMW]
    rfl
  show putF "_rows" (.ref R) (putF "_width" (.int w) (putF "_marks" (.ref A) [])) = _
  rw [e1]
  show (if ("_marks" : Str) = "_rows" then _ else (("_marks" : Str), V.ref A) :: (if ("_width" : Str) = "_rows" then _ else (("_width" : Str), V.int w) :: putF "_rows" (V.ref R) [])) = _
  rw [if_neg nMR, if_neg nWR]
  rfl
theorem tf_len2 (A : Addr) (w : Int) : (putF "_width" (.int w) (putF "_marks" (.ref A) [])).length < 1000 := by
  show (if ("_marks" : Str) = "_width" then [(("_marks" : Str), V.int w)] else (("_marks" : Str), V.ref A) :: putF "_width" (V.int w) []).length < 1000
  rw [if_neg nMW]
  show 2 < 1000
  decide
theorem look2 {a b : Str} {x : V} {r : List (Str × V)} (h : ¬ a = b) : List.lookup a ((b, x) :: r) = List.lookup a r := by
  rw [List.lookup_cons, beq_eq_false_iff_ne.mpr h]
theorem look1 {a : Str} {x : V} {r : List (Str × V)} : List.lookup a ((a, x) :: r) = some x := by
  rw [List.lookup_cons, beq_self_eq_true]
theorem tf_marks (A : Addr) (w : Int) (R : Addr) : (tf A w R).lookup ("_marks" : Str) = some (.ref A) := look1
theorem tf_width (A : Addr) (w : Int) (R : Addr) : (tf A w R).lookup ("_width" : Str) = some (.int w) := by
  unfold tf
  rw [look2 (Ne.symm nMW), look1]
theorem tf_rows (A : Addr) (w : Int) (R : Addr) : (tf A w R).lookup ("_rows" : Str) = some (.ref R) := by
  unfold tf
  rw [look2 (Ne.symm nMR), look2 (Ne.symm nWR), look1]
theorem tf_no (A : Addr) (w : Int) (R : Addr) {m : Str} (h1 : ¬ m = "_marks") (h2 : ¬ m = "_width") (h3 : ¬ m = "_rows") : (tf A w R).lookup m = none := by
  unfold tf
  rw [look2 h1, look2 h2, look2 h3]
  rfl
/-- what is told of the class -/
structure TC (K : PySem.W.Frag) (mg : Str → Option Value) (C : Addr) : Prop where
  cl : Cls K C
  nM : NoAttr K C "_marks"
  nW : NoAttr K C "_width"
  nR : NoAttr K C "_rows"
  mgC : mg "Table" = some (.ref C)
  kit : PySem.W.kitOne K (.ref C) (.ref C) = some true
  a1 : PySem.W.findIn K (.ref C) "__class__" = some (some (.builtin "object.__class__"))
  a2 : PySem.W.specialIn K (.builtin "object.__class__") "__get__" = some (some (.builtin "getset_descriptor.__get__"))
  a3 : PySem.W.takesIn K (.builtin "object.__class__") = some true
  a4 : PySem.W.mroIn K C (.type "object") = some true
theorem TC.is {K : PySem.W.Frag} {mg : Str → Option Value} {C : Addr} (T : TC K mg C) {H : Hp} {a dx : Addr} {fs : List (Str × V)} (e : H a = some (.ins C dx fs)) : TyX K H (.ref a) (.ref C) := .base (.ins e T.cl T.a1 T.a2 T.a3 T.a4)
/-- the table at p: its marks, its width, its rows ascending -/
def TableAt (C : Addr) (H : Hp) (p : Addr) (ms : List Str) (d : Nat) (rs : List (List Str)) : Prop :=
  ∃ (dx A R : Addr) (M : List (Addr × List Str)), H p = some (.ins C dx (tf A ((d + 1 : Nat) : Int) R)) ∧ H A = some (.lst (ms.map V.str)) ∧ H R = some (.lst (M.map fun e => V.ref e.1)) ∧ RowsIn H d M ∧ M.map (·.2) = rs ∧ Up rs
theorem TableAt.to {C : Addr} {H H' : Hp} {p : Addr} {ms : List Str} {d : Nat} {rs : List (List Str)} (T : TableAt C H p ms d rs) (s : Same H H') : TableAt C H' p ms d rs := by
  obtain ⟨dx, A, R, M, h1, h2, h3, h4, h5⟩ := T
  exact ⟨dx, A, R, M, s _ _ h1, s _ _ h2, s _ _ h3, h4.to s, h5⟩
theorem TableAt.but {C : Addr} {H H' : Hp} {p q : Addr} {g : Nat} {ms : List Str} {d : Nat} {rs : List (List Str)} (T : TableAt C H p ms d rs) (hP : PurseAt H q g) (b : But q H H') : TableAt C H' p ms d rs := by
  have k : ∀ {a : Addr} {o : HO}, H a = some o → (∀ x y c t : Int, o ≠ .lst [.int x, .int y, .int c, .int t]) → H' a = some o := fun {a o} e ne => b _ _ (fun z => by
    obtain ⟨x, y, c, t, e', _⟩ := hP
    rw [z, e'] at e
    exact ne x y c t (Option.some.inj e).symm) e
  obtain ⟨dx, A, R, M, h1, h2, h3, h4, h5⟩ := T
  refine ⟨dx, A, R, M, k h1 (fun _ _ _ _ z => nomatch z), k h2 (fun _ _ _ _ z => ?_), k h3 (fun _ _ _ _ z => ?_), ⟨fun e he => k (h4.at_ e he) (fun _ _ _ _ z => nomatch z), h4.len, h4.few⟩, h5⟩
  · cases ms with
    | nil => cases z
    | cons m ms => cases z
  · cases M with
    | nil => cases z
    | cons m M => cases z
section
variable {P : Program} {w : World} {K : PySem.W.Frag} {mg : Str → Option Value} {base : Heap} {f : Addr} {fd : FuncData}
theorem scIsRow : FnScope ["marks", "width", "value", "mark"] ["marks", "width", "value"] (defScope sIsRow) := ⟨rfl, rfl, rfl, by decide +kernel, rfl, by decide +kernel, by decide +kernel⟩
abbrev RowArg : Hp → List V → Prop := fun H vs => ∃ (a t : Addr) (n : Int) (ms zs : List Str), vs = [.ref a, .int n, .ref t] ∧ H a = some (.lst (ms.map V.str)) ∧ H t = some (.tup (zs.map V.str)) ∧ (zs.length : Int) = n ∧ zs.length ≤ 1000 ∧ ∀ z ∈ zs, z ∈ ms
theorem ok_isrow (F : FnP K "is_row" sIsRow f fd) (T : Nm mg) (T6 : Nm6 mg) : FnOk P w K mg base CX0 1 f fd ["marks", "width", "value"] (spYes RowArg) := by
  refine F.ok scIsRow (fun vs H Q E h => ?_) (fun cdv A outer s H vs Q E hr h => ?_)
  · obtain ⟨⟨a, t, n, ms, zs, rfl, _⟩, _⟩ := h
    rfl
  · obtain ⟨⟨a, t, n, ms, zs, rfl, ha, ht, hn, few, hz⟩, k⟩ := h
    refine ⟨_, PSs.nox (pss_one (ps_ret (pe_and (pe_callB call_isi (by rfl) T6.isi (by decide +kernel) (pa_cons (pv 2) (pa_cons (pe_bltn (v := .ty "tuple") (u := .type "tuple") (by rfl) T6.tuple (by decide +kernel) rfl) pa_nil)))
      (pe_and (pe_cmpR op_eq (pe_callB call_len (by rfl) T.len PySem.boot_len (pa_cons (pv 2) pa_nil)) (pv 1) (nomark _))
      (pe_one (pe_callB (cr_all rfl) (by rfl) T6.all (by decide +kernel) (pa_cons (pe_lc (own := [("mark", 3)]) (g := gName 3) (tt := tYes) (te := tOp (rIn K false) (tVar 3) (tVar 0)) rfl scIsRow.nd (pi_tup (pv 2)) (blkOk_by (own := [("mark", 3)]) (N := ["marks", "width", "value", "mark"]) (sc := defScope sIsRow) (by decide +kernel))
        (fun _ _ _ _ _ => pg_name (i := 3) scIsRow.nd rfl (Or.inl rfl)) (fun _ _ _ _ _ => pts_nil) (fun _ _ _ _ _ => pe_cmpR op_in_seq (pv 3) (pv 0) (by rfl))) pa_nil))))))), ?_⟩
    refine ⟨_, rfl, _, _, .type "tuple", _, true, rfl, .ty _, .base (.tup ht), kit_ty (by decide +kernel), true, rfl, ?_⟩
    refine iteT ?_
    refine ⟨_, rfl, _, (zs.map V.str).length, rfl, Or.inr ⟨_, SqT.of ht, rfl⟩, _, rfl, rfl, true, ?_, ?_⟩
    · rw [List.length_map, hn]
      exact bl_self _
    refine iteT ?_
    refine ⟨_, rfl, t, rfl, ⟨_, SqT.of ht⟩, fun D hD => ?_⟩
    refine lc_tup (K := K) (a := t) (xs := zs.map V.str) (fun i Hx => Hx D = some (.lst ((List.replicate i true).map V.bl)) ∧ Same H Hx) ⟨upd_same, same_new hD⟩ (fun i Hx _ q => SqT.of (q.2 _ _ ht)) ?_ ?_
    · rintro i v Hx hv ⟨q1, q2⟩
      rw [List.getElem?_map] at hv
      obtain ⟨c, ec, rfl⟩ := Option.map_eq_some_iff.mp hv
      have hi : i < zs.length := (List.getElem?_eq_some_iff.mp ec).1
      refine ⟨rfl, ?_⟩
      refine ⟨_, rfl, _, rfl, a, ms.map V.str, rfl, .inl (SqL.of (q2 _ _ ha)), rfl, flat_strs' ms, ?_⟩
      have e1 : (V.bl (if false = true then !inV (V.str c) (ms.map V.str) else inV (V.str c) (ms.map V.str))) = V.bl true := by
        show V.bl (inV (V.str c) (ms.map V.str)) = _
        rw [inV_str, decide_eq_true (hz c (List.mem_of_getElem? ec))]
      rw [e1]
      refine ⟨_, q1, ?_, ?_, fun b o e => (upd_ne (ne_of_none e hD)).trans (q2 _ _ e)⟩
      · rw [List.length_map, List.length_replicate]
        exact len_ok (by omega)
      · rw [upd_same, List.replicate_succ', List.map_append]
        rfl
    · rintro Hx ⟨q1, q2⟩
      refine ⟨D, List.replicate (zs.map V.str).length true, rfl, SqL.of q1, ?_⟩
      rw [all_rep]
      exact k _ q2
theorem scCheckWidth : FnScope ["width"] ["width"] (defScope sCheckWidth) := ⟨rfl, rfl, rfl, by decide +kernel, rfl, by decide +kernel, by decide +kernel⟩
abbrev WidthArg : Hp → List V → Prop := fun _ vs => ∃ d : Nat, vs = [.int ((d + 1 : Nat) : Int)] ∧ d ≤ 3
theorem ok_checkwidth {fN : Addr} {dN : FuncData} {t : Tok} (F : FnP K "check_width" sCheckWidth f fd) (gM : mg "GREATEST_WIDTH" = some (.int 4 t))
    (GN : FnOk P w K mg base CX0 1 fN dN ["value"] (spYes fun _ vs => ∃ n : Int, vs = [.int n] ∧ 0 ≤ n)) (bN : Binds K dN ["value"] []) (kN : PySem.W.keepIn K (.ref fN) = true) (gN : mg "is_count" = some (.ref fN)) :
    FnOk P w K mg base CX0 2 f fd ["width"] (spNon WidthArg) := by
  refine F.ok scCheckWidth (fun vs H Q E h => ?_) (fun cdv A outer s H vs Q E hr h => ?_)
  · obtain ⟨⟨d, rfl, _⟩, _⟩ := h
    rfl
  · obtain ⟨⟨d, rfl, hd⟩, k⟩ := h
    refine ⟨_, PSs.nox (pss_one (ps_if (PW.pt (pw_or (pt_not (pt_val (pe_call GN hr rfl gN kN bN .nil pass0 (pa_cons (pv 0) pa_nil))))
      (pw_or1 (pt_not (pt_chain op_le op_le pe_int (pv 0) (pe_glob (v := .int 4) rfl gM ⟨_, rfl⟩)))))) (pss_one ps_never) pss_nil)), ?_⟩
    refine ⟨_, rfl, ⟨_, rfl, by omega⟩, fun H1 s1 => ⟨true, rfl, ?_⟩⟩
    refine iteF ?_
    refine ⟨_, rfl, _, _, rfl, rfl, true, by show V.bl (decide ((1 : Int) ≤ ((d + 1 : Nat) : Int))) = _; rw [decide_eq_true (by omega)], ?_⟩
    refine iteT ?_
    refine ⟨_, _, rfl, rfl, true, by show V.bl (decide (((d + 1 : Nat) : Int) ≤ 4)) = _; rw [decide_eq_true (by omega)], ?_⟩
    refine iteF ?_
    exact k H1 s1
theorem units4 {k : Nat} {A : Around} (hr : Room k A) : A.units + 4 < cLine := by
  have := hr.units
  omega
theorem units3 {k : Nat} {A : Around} (hr : Room k A) : A.units + 3 < cLine := by
  have := hr.units
  omega
theorem nodup_few {α : Type} : ∀ (l D : List α), l.Nodup → (∀ x ∈ l, x ∈ D) → l.length ≤ D.length
  | [], _, _, _ => Nat.zero_le _
  | x :: l, D, nd, sub => by
    obtain ⟨h1, h2⟩ := List.nodup_cons.mp nd
    obtain ⟨u, v, rfl⟩ := List.append_of_mem (sub x List.mem_cons_self)
    have := nodup_few l (u ++ v) h2 fun y hy => by
      have q := sub y (List.mem_cons_of_mem _ hy)
      rcases List.mem_append.mp q with q | q
      · exact List.mem_append_left _ q
      · rcases List.mem_cons.mp q with q | q
        · exact absurd (q ▸ hy) h1
        · exact List.mem_append_right _ q
    simp only [List.length_append, List.length_cons] at this ⊢
    omega
theorem sub_keyed {M0 : List (Addr × List Str)} : ∀ {L : List (Addr × List Key)}, (∀ e ∈ L, e ∈ keyed M0) → ∃ M, L = keyed M ∧ ∀ e ∈ M, e ∈ M0
  | [], _ => ⟨[], rfl, fun e he => nomatch he⟩
  | e :: L, h => by
    obtain ⟨M, e1, h1⟩ := sub_keyed (L := L) fun u hu => h u (List.mem_cons_of_mem _ hu)
    obtain ⟨u, hu, eu⟩ := List.mem_map.mp (h e List.mem_cons_self)
    refine ⟨u :: M, by rw [e1, ← eu] <;> rfl, fun v hv => ?_⟩
    rcases List.mem_cons.mp hv with rfl | hv
    · exact hu
    · exact h1 v hv
theorem scTInit : FnScope ["self", "marks", "width", "rows", "row"] ["self", "marks", "width", "rows"] (defScope sTInit) := ⟨rfl, rfl, rfl, by decide +kernel, rfl, by decide +kernel, by decide +kernel⟩
def spTInit (C : Addr) : Sp := fun vs H Q _ => ∃ (x dx a l : Addr) (d : Nat) (ms : List Str) (M0 : List (Addr × List Str)), vs = [.ref x, .ref a, .int ((d + 1 : Nat) : Int), .ref l] ∧ H x = some (.ins C dx []) ∧ H a = some (.lst (ms.map V.str)) ∧ MarksOk ms ∧ d ≤ 3 ∧ H l = some (.lst (M0.map fun e => V.ref e.1)) ∧ RowsIn H d M0 ∧ (∀ e ∈ M0, ∀ z ∈ e.2, z ∈ ms) ∧
  ∀ (H' : Hp) (rs : List (List Str)), (∀ r, r ∈ rs ↔ r ∈ M0.map (·.2)) → TableAt C H' x ms d rs → But x H H' → Q .non H'
theorem ok_tinit {C fC fW fR : Addr} {dC dW dR : FuncData} (F : MethP K "__init__" sTInit f fd) (TT : TC K mg C) (T : Nm mg) (T6 : Nm6 mg) (hso : mg "sorted" = none) (hst : mg "set" = none)
    (GC : FnOk P w K mg base CX0 3 fC dC ["marks"] (spNon fun H vs => ∃ a ms, vs = [.ref a] ∧ H a = some (.lst (ms.map V.str)) ∧ MarksOk ms)) (bC : Binds K dC ["marks"] []) (kC : PySem.W.keepIn K (.ref fC) = true) (gC : mg "check_marks" = some (.ref fC))
    (GW : FnOk P w K mg base CX0 2 fW dW ["width"] (spNon WidthArg)) (bW : Binds K dW ["width"] []) (kW : PySem.W.keepIn K (.ref fW) = true) (gW : mg "check_width" = some (.ref fW))
    (GR : FnOk P w K mg base CX0 1 fR dR ["marks", "width", "value"] (spYes RowArg)) (bR : Binds K dR ["marks", "width", "value"] []) (kR' : PySem.W.keepIn K (.ref fR) = true) (gR : mg "is_row" = some (.ref fR)) :
    FnOk P w K mg base CX0 4 f fd ["self", "marks", "width", "rows"] (spTInit C) := by
  refine FunD.ok F scTInit (fun vs H Q E h => ?_) (fun cdv A outer s H vs Q E hr h => ?_)
  · obtain ⟨x, dx, a, l, d, ms, M0, rfl, _⟩ := h
    rfl
  · obtain ⟨x, dx, a, l, d, ms, M0, rfl, hx, ha, ok, hd, hl, hR, over, k⟩ := h
    have hu4 := units4 hr
    have hu3 := units3 hr
    refine ⟨_, PSs.nox (pss_cons (ps_expr (pe_call GC hr rfl gC kC bC .nil pass0 (pa_cons (pv 1) pa_nil)))
      (pss_cons (ps_expr (pe_call GW (hr.mono (by decide)) rfl gW kW bW .nil pass0 (pa_cons (pv 2) pa_nil)))
      (pss_cons (ps_if (PW.pt (pw_or (pt_not (pt_val (pe_callB call_isi (by rfl) T6.isi (by decide +kernel) (pa_cons (pv 3) (pa_cons (pe_bltn (v := .ty "list") (u := .type "list") (by rfl) T6.list (by decide +kernel) rfl) pa_nil)))))
          (pw_or1 (pt_not (pt_val (pe_callB (cr_all rfl) (by rfl) T6.all (by decide +kernel) (pa_cons (pe_lc (own := [("row", 4)]) (g := gName 4) (tt := tYes) (te := tCall (spYes RowArg) [] E0 (tCons (tVar 1) (tCons (tVar 2) (tCons (tVar 4) tNil)))) rfl scTInit.nd (pi_list (pv 3)) (blkOk_by (own := [("row", 4)]) (N := ["self", "marks", "width", "rows", "row"]) (sc := defScope sTInit) (by decide +kernel))
            (fun _ _ _ _ _ => pg_name (i := 4) scTInit.nd rfl (Or.inl rfl)) (fun _ _ _ _ _ => pts_nil) (fun _ _ _ _ _ => pe_call GR (hr.mono (by decide)) rfl gR kR' bR .nil pass0 (pa_cons (pv 1) (pa_cons (pv 2) (pa_cons (pv 4) pa_nil))))) pa_nil))))))) (pss_one ps_never) pss_nil)
      (pss_cons (ps_fld (pv 0) (pe_callTy call_list_of (by rfl) T6.list (by decide +kernel) (pa_cons (pv 1) pa_nil)) rfl)
      (pss_cons (ps_fld (pv 0) (pv 2) rfl)
      (pss_one (ps_fld (pv 0) (pe_callB (cr_sortSet rfl hu4) (by rfl) hso (by decide +kernel) (pa_cons (pe_callTy (cr_setT rfl hu3) (by rfl) hst (by decide +kernel) (pa_cons (pv 3) pa_nil)) pa_nil)) rfl))))))), ?_⟩
    refine ⟨_, rfl, ⟨a, ms, rfl, ha, ok⟩, fun H1 s1 => ?_⟩
    refine ⟨_, rfl, ⟨d, rfl, hd⟩, fun H2 s2 => ?_⟩
    have s12 : Same H H2 := fun b o e => s2 _ _ (s1 _ _ e)
    refine ⟨_, rfl, _, _, .type "list", _, true, rfl, .ty _, .base (.lst (s12 _ _ hl)), kit_ty (by decide +kernel), _, rfl, ?_⟩
    refine iteF ?_
    refine ⟨_, rfl, l, rfl, ⟨_, SqL.of (s12 _ _ hl)⟩, fun D hD => ?_⟩
    have lM : M0.length ≤ 1000 := by
      have := hR.few
      omega
    refine lc_list (K := K) (a := l) (xs := M0.map fun e => V.ref e.1) (fun i Hx => Hx D = some (.lst ((List.replicate i true).map V.bl)) ∧ Same H2 Hx) ⟨upd_same, same_new hD⟩ (fun i Hx _ q => SqL.of (q.2 _ _ (s12 _ _ hl))) ?_ ?_
    · rintro i v Hx hv ⟨q1, q2⟩
      rw [List.getElem?_map] at hv
      obtain ⟨e, he, rfl⟩ := Option.map_eq_some_iff.mp hv
      have em := List.mem_of_getElem? he
      have hi : i < M0.length := (List.getElem?_eq_some_iff.mp he).1
      refine ⟨rfl, ?_⟩
      refine ⟨_, rfl, _, rfl, _, rfl, ⟨a, e.1, _, ms, e.2, rfl, q2 _ _ (s12 _ _ ha), q2 _ _ (s12 _ _ (hR.at_ e em)), by rw [hR.len e em], by rw [hR.len e em]; omega, over e em⟩, fun H3 s3 => ⟨_, s3 _ _ q1, ?_, ?_, fun b o z => (upd_ne (ne_of_none z hD)).trans (s3 _ _ (q2 _ _ z))⟩⟩
      · rw [List.length_map, List.length_replicate]
        exact len_ok (by omega)
      · rw [upd_same, List.replicate_succ', List.map_append]
        rfl
    · rintro Hx ⟨q1, q2⟩
      refine ⟨D, List.replicate (M0.map fun e => V.ref e.1).length true, rfl, SqL.of q1, ?_⟩
      rw [all_rep]
      refine ⟨true, rfl, ?_⟩
      refine iteF ?_
      have sx : Same H Hx := fun b o e => q2 _ _ (s12 _ _ e)
      refine ⟨_, rfl, a, _, rfl, .inl (SqL.of (sx _ _ ha)), fun A1 nA => ?_⟩
      have sA := same_new (o := .lst (ms.map V.str)) nA
      have xA : x ≠ A1 := fun z => by
        rw [← z, sx _ _ hx] at nA
        cases nA
      refine ⟨_, rfl, x, C, dx, [], rfl, sA _ _ (sx _ _ hx), TT.cl, TT.nM, (by show 0 < 1000; decide), ?_⟩
      refine ⟨_, rfl, _, rfl, x, C, dx, _, rfl, upd_same, TT.cl, TT.nW, (by show 1 < 1000; decide), ?_⟩
      obtain ⟨H3, e3⟩ : ∃ G, G = upd (upd (upd Hx A1 (.lst (ms.map V.str))) x (.ins C dx (putF "_marks" (.ref A1) []))) x (.ins C dx (putF "_width" (.int ((d + 1 : Nat) : Int)) (putF "_marks" (.ref A1) []))) := ⟨_, rfl⟩
      rw [← e3]
      have hx3 : H3 x = some (.ins C dx (putF "_width" (.int ((d + 1 : Nat) : Int)) (putF "_marks" (.ref A1) []))) := by
        rw [e3]
        exact upd_same
      have b3 : But x H H3 := fun b o ne e => by
        rw [e3, upd_ne ne, upd_ne ne]
        exact sA _ _ (sx _ _ e)
      have hA3 : H3 A1 = some (.lst (ms.map V.str)) := by
        rw [e3, upd_ne xA.symm, upd_ne xA.symm]
        exact upd_same
      have lx : l ≠ x := fun z => by
        rw [z, hx] at hl
        cases hl
      have hl3 := b3 _ _ lx hl
      have hR3 : RowsIn H3 d M0 := ⟨fun e he => b3 _ _ (fun z => by
        have q := hR.at_ e he
        rw [z, hx] at q
        cases q) (hR.at_ e he), hR.len, hR.few⟩
      refine ⟨_, rfl, l, keyed M0, rfl, ?_, hR3.stand, by rw [List.length_map]; exact hR3.few, fun S L nS of all nd => ?_⟩
      · have e : (keyed M0).map (fun e => V.ref e.1) = M0.map fun e => V.ref e.1 := by
          unfold keyed
          rw [List.map_map]
          rfl
        rw [e]
        exact SqL.of hl3
      obtain ⟨M, rfl, sub⟩ := sub_keyed of
      have sS := same_new (o := SetTO' P w S (keyed M)) nS
      have fewM : M.length < 300 := by
        have n1 := nodup_few ((keyed M).map (·.2)) ((keyed M0).map (·.2)) nd fun y hy => by
          obtain ⟨e, he, rfl⟩ := List.mem_map.mp hy
          exact List.mem_map.mpr ⟨e, of e he, rfl⟩
        rw [List.length_map, List.length_map, List.length_map, List.length_map] at n1
        have := hR.few
        omega
      have hRM : RowsIn (upd H3 S (SetTO' P w S (keyed M))) d M := ⟨fun e he => sS _ _ (hR3.at_ e (sub e he)), fun e he => hR.len e (sub e he), fewM⟩
      refine ⟨S, M, d, rfl, upd_same, hRM, fun M' R pm up nR => ?_⟩
      have sR := same_new (o := .lst (M'.map fun e => V.ref e.1)) nR
      have xR : x ≠ R := fun z => by
        have t := sS _ _ hx3
        rw [z] at t
        exact nomatch (t.symm.trans nR)
      refine ⟨_, rfl, x, C, dx, _, rfl, sR _ _ (sS _ _ hx3), TT.cl, TT.nR, tf_len2 _ _, ?_⟩
      rw [tf_make]
      have nx : ∀ {b : Addr} {o : HO}, (∀ fs, o ≠ .ins C dx fs) → (upd (upd H3 S (SetTO' P w S (keyed M))) R (.lst (M'.map fun e => V.ref e.1))) b = some o → (upd (upd (upd H3 S (SetTO' P w S (keyed M))) R (.lst (M'.map fun e => V.ref e.1))) x (.ins C dx (tf A1 ((d + 1 : Nat) : Int) R))) b = some o := fun {b o} ne e => (upd_ne (fun z => by
        have t := sR _ _ (sS _ _ hx3)
        rw [z] at e
        exact ne _ (Option.some.inj (e.symm.trans t)))).trans e
      refine k _ (M'.map (·.2)) (fun r => ?_) ⟨dx, A1, R, M', upd_same, nx (fun _ z => nomatch z) (sR _ _ (sS _ _ hA3)), nx (fun _ z => nomatch z) upd_same, ⟨fun e he => nx (fun _ z => nomatch z) (sR _ _ (hRM.at_ e (pm.mem_iff.mp he))), fun e he => hRM.len e (pm.mem_iff.mp he), by rw [pm.length_eq]; exact fewM⟩, rfl, up⟩ fun b o ne e => (upd_ne ne).trans (sR _ _ (sS _ _ (b3 _ _ ne e)))
      rw [(pm.map (·.2)).mem_iff]
      refine ⟨fun h => ?_, fun h => ?_⟩
      · obtain ⟨e, he, rfl⟩ := List.mem_map.mp h
        exact List.mem_map.mpr ⟨e, sub e he, rfl⟩
      · obtain ⟨e, he, rfl⟩ := List.mem_map.mp h
        have := all (e.1, kR e.2) (List.mem_map.mpr ⟨e, he, rfl⟩)
        obtain ⟨u, hu, eu⟩ := List.mem_map.mp this
        obtain ⟨v, hv, rfl⟩ := List.mem_map.mp hu
        exact List.mem_map.mpr ⟨v, hv, kR_inj eu⟩
end
end Yt

set_option Elab.async false
set_option linter.all false
set_option maxRecDepth 100000
set_option maxHeartbeats 2000000
namespace Yt
open PySem PySem.Spec PyProof.Rows L2
abbrev sSame : Stmt := top 44
/-- data at most so deep: what holds nothing, lists, tuples, the empty dictionary; nothing of it stands at A -/
def Vl (H : Hp) (A : List Addr) : Nat → V → Prop
  | 0, x => leafV x = true
  | n + 1, x => leafV x = true ∨ (∃ (a : Addr) (xs : List V), x = .ref a ∧ a ∉ A ∧ H a = some (.lst xs) ∧ (∀ v ∈ xs, Vl H A n v) ∧ xs.length ≤ 1000) ∨
    (∃ (a : Addr) (xs : List V), x = .ref a ∧ a ∉ A ∧ H a = some (.tup xs) ∧ (∀ v ∈ xs, Vl H A n v) ∧ xs.length ≤ 1000) ∨ (∃ a : Addr, x = .ref a ∧ a ∉ A ∧ H a = some (.dT []) ∧ 2 ≤ n)
theorem Vl.to {H H' : Hp} {A : List Addr} (s : Same H H') : ∀ {n : Nat} {x : V}, Vl H A n x → Vl H' A n x
  | 0, _, h => h
  | n + 1, x, h => by
    rcases h with h | ⟨a, xs, rfl, h0, h1, h2, h3⟩ | ⟨a, xs, rfl, h0, h1, h2, h3⟩ | ⟨a, rfl, h0, h1, h2⟩
    · exact .inl h
    · exact .inr (.inl ⟨a, xs, rfl, h0, s _ _ h1, fun v hv => (h2 v hv).to s, h3⟩)
    · exact .inr (.inr (.inl ⟨a, xs, rfl, h0, s _ _ h1, fun v hv => (h2 v hv).to s, h3⟩))
    · exact .inr (.inr (.inr ⟨a, rfl, h0, s _ _ h1, h2⟩))
theorem Vl.more {H : Hp} {A : List Addr} {D : Addr} (hD : H D = none) : ∀ {n : Nat} {x : V}, Vl H A n x → Vl H (D :: A) n x
  | 0, _, h => h
  | n + 1, x, h => by
    have ne : ∀ {a : Addr} {o : HO}, H a = some o → a ∉ A → a ∉ D :: A := fun e na z => by
      rcases List.mem_cons.mp z with z | z
      · rw [z, hD] at e
        cases e
      · exact na z
    rcases h with h | ⟨a, xs, rfl, h0, h1, h2, h3⟩ | ⟨a, xs, rfl, h0, h1, h2, h3⟩ | ⟨a, rfl, h0, h1, h2⟩
    · exact .inl h
    · exact .inr (.inl ⟨a, xs, rfl, ne h1 h0, h1, fun v hv => (h2 v hv).more hD, h3⟩)
    · exact .inr (.inr (.inl ⟨a, xs, rfl, ne h1 h0, h1, fun v hv => (h2 v hv).more hD, h3⟩))
    · exact .inr (.inr (.inr ⟨a, rfl, ne h1 h0, h1, h2⟩))
theorem Ex.less {H : Hp} : ∀ {n : Nat} {A B : List Addr} {x y : V}, (∀ c ∈ A, c ∈ B) → Ex H n B x y → Ex H n A x y
  | 0, _, _, _, _, _, h => h
  | n + 1, A, B, x, y, s, h => by
    rcases h with h | ⟨a, b, xs, ys, rfl, rfl, h1, h2, h3, h4, h5, h6⟩ | ⟨a, b, xs, ys, rfl, rfl, h1, h2, h3, h4, h5, h6⟩ | ⟨a, b, m, l, rfl, rfl, h0, h1, h2, h3, h4, h5, h6⟩
    · exact .inl h
    · exact .inr (.inl ⟨a, b, xs, ys, rfl, rfl, fun z => h1 (s _ z), fun z => h2 (s _ z), h3, h4, Paired.mapP h5 fun _ _ z => z.less s, h6⟩)
    · exact .inr (.inr (.inl ⟨a, b, xs, ys, rfl, rfl, fun z => h1 (s _ z), fun z => h2 (s _ z), h3, h4, Paired.mapP h5 fun _ _ z => z.less s, h6⟩))
    · exact .inr (.inr (.inr ⟨a, b, m, l, rfl, rfl, h0, fun z => h1 (s _ z), fun z => h2 (s _ z), h3, h4, Paired.mapP h5 fun _ _ z => ⟨z.1, z.2.1, z.2.2.less fun c hc => (List.mem_cons.mp hc).elim (fun e => by rw [e]; exact List.mem_cons_self ..) fun q => List.mem_cons_of_mem _ (s c q)⟩, h6⟩))
def spSame : Nat → Sp
  | 0 => fun _ _ _ _ => False
  | n + 1 => fun vs H Q _ => ∃ (x : V) (A : List Addr), vs = [x] ∧ Vl H A n x ∧ (∀ c ∈ A, ∃ o, H c = some o) ∧ ∀ (y : V) (H' : Hp), Ex H' n A x y → Same H H' → Q y H'
theorem none_backB {H H' : Hp} {a : Addr} (s : Same H H') (n : H' a = none) : H a = none := by
  cases z : H a with
  | none => rfl
  | some o =>
    rw [s _ _ z] at n
    cases n
section
variable {P : Program} {w : World} {K : PySem.W.Frag} {mg : Str → Option Value} {base : Heap} {f : Addr} {fd : FuncData}
theorem scSame : FnScope ["_law_thing", "_law_key", "_law_item"] ["_law_thing"] (defScope sSame) := ⟨rfl, rfl, rfl, by decide +kernel, rfl, by decide +kernel, by decide +kernel⟩
theorem ok_same (F : FnP K "_law_same" sSame f fd) (T : Nm mg) (T6 : Nm6 mg) (bS : Binds K fd ["_law_thing"] []) (kS : PySem.W.keepIn K (.ref f) = true) (gS : mg "_law_same" = some (.ref f)) {n : Nat} (GS : FnOk P w K mg base CX0 n f fd ["_law_thing"] (spSame n)) :
    FnOk P w K mg base CX0 (n + 1) f fd ["_law_thing"] (spSame (n + 1)) := by
  refine F.ok scSame (fun vs H Q E h => ?_) (fun cdv A outer s H vs Q E hr h => ?_)
  · obtain ⟨x, B, rfl, _⟩ := h
    rfl
  · obtain ⟨x, B, rfl, hV, hB, k⟩ := h
    have hu := hu_of hr
    have hu4 := units4 hr
    refine ⟨_, PSs.nox (pss_cons (ps_if (pt_val (pe_callB call_isi (by rfl) T6.isi (by decide +kernel) (pa_cons (pv 0) (pa_cons (pe_bltn (v := .ty "dict") (u := .type "dict") (by rfl) T6.dict (by decide +kernel) rfl) pa_nil))))
        (pss_one (ps_ret (pe_callTy (call_dictPT rfl (units_le hu4 (by decide))) (by rfl) T6.dict (by decide +kernel) (pa_cons (pe_lock
          (pe_lc (own := [("_law_key", 1)]) (g := gName 1) (tt := tYes) (te := tTup (tCons (tVar 1) (tCons (tCall (spSame n) [] E0 (tCons (tDGet (tVar 0) (tVar 1)) tNil)) tNil))) rfl scSame.nd (pi_keys (pv 0)) (blkOk_by (own := [("_law_key", 1)]) (N := ["_law_thing", "_law_key", "_law_item"]) (sc := defScope sSame) (by decide +kernel))
            (fun _ _ _ _ _ => pg_name (i := 1) scSame.nd rfl (Or.inl rfl)) (fun _ _ _ _ _ => pts_nil) (fun _ _ _ _ _ => pe_tup (pa_cons (pv 1) (pa_cons (pe_call GS hr rfl gS kS bS .nil pass0 (pa_cons (pe_dget hu (pv 0) (pv 1) (fun _ _ => rfl)) pa_nil)) pa_nil))))) pa_nil)))) pss_nil)
      (pss_cons (ps_if (pt_val (pe_callB call_isi (by rfl) T6.isi (by decide +kernel) (pa_cons (pv 0) (pa_cons (pe_bltn (v := .ty "list") (u := .type "list") (by rfl) T6.list (by decide +kernel) rfl) pa_nil))))
        (pss_one (ps_ret (pe_lc (own := [("_law_item", 2)]) (g := gName 2) (tt := tYes) (te := tCall (spSame n) [] E0 (tCons (tVar 2) tNil)) rfl scSame.nd (pi_list (pv 0)) (blkOk_by (own := [("_law_item", 2)]) (N := ["_law_thing", "_law_key", "_law_item"]) (sc := defScope sSame) (by decide +kernel))
            (fun _ _ _ _ _ => pg_name (i := 2) scSame.nd rfl (Or.inl rfl)) (fun _ _ _ _ _ => pts_nil) (fun _ _ _ _ _ => pe_call GS hr rfl gS kS bS .nil pass0 (pa_cons (pv 2) pa_nil))))) pss_nil)
      (pss_one (ps_ret (pe_ifExp (pt_val (pe_callB call_isi (by rfl) T6.isi (by decide +kernel) (pa_cons (pv 0) (pa_cons (pe_bltn (v := .ty "tuple") (u := .type "tuple") (by rfl) T6.tuple (by decide +kernel) rfl) pa_nil))))
        (pe_callTy call_tuple_of (by rfl) T6.tuple (by decide +kernel) (pa_cons (pe_lc (own := [("_law_item", 2)]) (g := gName 2) (tt := tYes) (te := tCall (spSame n) [] E0 (tCons (tVar 2) tNil)) rfl scSame.nd (pi_tup (pv 0)) (blkOk_by (own := [("_law_item", 2)]) (N := ["_law_thing", "_law_key", "_law_item"]) (sc := defScope sSame) (by decide +kernel))
            (fun _ _ _ _ _ => pg_name (i := 2) scSame.nd rfl (Or.inl rfl)) (fun _ _ _ _ _ => pts_nil) (fun _ _ _ _ _ => pe_call GS hr rfl gS kS bS .nil pass0 (pa_cons (pv 2) pa_nil))) pa_nil))
        (pv 0)))))), ?_⟩
    have nB : ∀ {D : Addr}, H D = none → D ∉ B := fun hD z => by
      obtain ⟨o, e⟩ := hB _ z
      rw [hD] at e
      cases e
    have cases4 : leafV x = true ∨ ∃ m, n = m + 1 ∧ ((∃ (a : Addr) (xs : List V), x = .ref a ∧ a ∉ B ∧ H a = some (.lst xs) ∧ (∀ v ∈ xs, Vl H B m v) ∧ xs.length ≤ 1000) ∨
        (∃ (a : Addr) (xs : List V), x = .ref a ∧ a ∉ B ∧ H a = some (.tup xs) ∧ (∀ v ∈ xs, Vl H B m v) ∧ xs.length ≤ 1000) ∨ (∃ a : Addr, x = .ref a ∧ a ∉ B ∧ H a = some (.dT []) ∧ 2 ≤ m)) := by
      cases n with
      | zero => exact .inl hV
      | succ m => exact hV.imp id fun h => ⟨m, rfl, h⟩
    clear hV
    rcases cases4 with hl | ⟨m, rfl, ⟨a, xs, rfl, h0, h1, h2, h3⟩ | ⟨a, xs, rfl, h0, h1, h2, h3⟩ | ⟨a, rfl, h0, h1, h2⟩⟩
    · match x, hl with
      | .int z, _ =>
        refine ⟨_, rfl, _, _, .type "int", _, false, rfl, .ty _, .base (.int _), kit_ty (by decide +kernel), _, rfl, ?_⟩
        refine iteF ?_
        refine ⟨_, rfl, _, _, .type "int", _, false, rfl, .ty _, .base (.int _), kit_ty (by decide +kernel), _, rfl, ?_⟩
        refine iteF ?_
        refine ⟨_, rfl, _, _, .type "int", _, false, rfl, .ty _, .base (.int _), kit_ty (by decide +kernel), _, rfl, ?_⟩
        refine iteF ?_
        exact ⟨_, rfl, k _ _ (Ex.leaf rfl) fun _ _ e => e⟩
      | .bl z, _ =>
        refine ⟨_, rfl, _, _, .type "bool", _, false, rfl, .ty _, .base (.bl _), kit_ty (by decide +kernel), _, rfl, ?_⟩
        refine iteF ?_
        refine ⟨_, rfl, _, _, .type "bool", _, false, rfl, .ty _, .base (.bl _), kit_ty (by decide +kernel), _, rfl, ?_⟩
        refine iteF ?_
        refine ⟨_, rfl, _, _, .type "bool", _, false, rfl, .ty _, .base (.bl _), kit_ty (by decide +kernel), _, rfl, ?_⟩
        refine iteF ?_
        exact ⟨_, rfl, k _ _ (Ex.leaf rfl) fun _ _ e => e⟩
      | .str z, _ =>
        refine ⟨_, rfl, _, _, .type "str", _, false, rfl, .ty _, .base (.str _), kit_ty (by decide +kernel), _, rfl, ?_⟩
        refine iteF ?_
        refine ⟨_, rfl, _, _, .type "str", _, false, rfl, .ty _, .base (.str _), kit_ty (by decide +kernel), _, rfl, ?_⟩
        refine iteF ?_
        refine ⟨_, rfl, _, _, .type "str", _, false, rfl, .ty _, .base (.str _), kit_ty (by decide +kernel), _, rfl, ?_⟩
        refine iteF ?_
        exact ⟨_, rfl, k _ _ (Ex.leaf rfl) fun _ _ e => e⟩
      | .non, _ =>
        refine ⟨_, rfl, _, _, .type "NoneType", _, false, rfl, .ty _, .base (.non), kit_ty (by decide +kernel), _, rfl, ?_⟩
        refine iteF ?_
        refine ⟨_, rfl, _, _, .type "NoneType", _, false, rfl, .ty _, .base (.non), kit_ty (by decide +kernel), _, rfl, ?_⟩
        refine iteF ?_
        refine ⟨_, rfl, _, _, .type "NoneType", _, false, rfl, .ty _, .base (.non), kit_ty (by decide +kernel), _, rfl, ?_⟩
        refine iteF ?_
        exact ⟨_, rfl, k _ _ (Ex.leaf rfl) fun _ _ e => e⟩
    · refine ⟨_, rfl, _, _, .type "list", _, false, rfl, .ty _, .base (.lst h1), kit_ty (by decide +kernel), _, rfl, ?_⟩
      refine iteF ?_
      refine ⟨_, rfl, _, _, .type "list", _, true, rfl, .ty _, .base (.lst h1), kit_ty (by decide +kernel), _, rfl, ?_⟩
      refine iteT ?_
      refine ⟨_, rfl, a, rfl, ⟨_, SqL.of h1⟩, fun D hD => ?_⟩
      refine lc_list (K := K) (a := a) (xs := xs) (fun i Hx => ∃ ys : List V, Hx D = some (.lst ys) ∧ ys.length = i ∧ Paired (Ex Hx m (D :: B)) (xs.take i) ys ∧ Same H Hx) ⟨[], upd_same, rfl, by rw [List.take_zero]; exact .nil, same_new hD⟩ (fun i Hx _ ⟨_, _, _, _, z⟩ => SqL.of (z _ _ h1)) ?_ ?_
      · rintro i v Hx ev ⟨ys, q1, ly, pr, z⟩
        have il := (List.getElem?_eq_some_iff.mp ev).1
        refine ⟨rfl, ?_⟩
        refine ⟨_, rfl, v, D :: B, rfl, ((h2 v (List.mem_of_getElem? ev)).more hD).to z, fun c hc => ?_, fun y H4 ex s4 => ?_⟩
        · rcases List.mem_cons.mp hc with rfl | hc
          · exact ⟨_, q1⟩
          · obtain ⟨o, e⟩ := hB c hc
            exact ⟨o, z _ _ e⟩
        · have ne : ∀ {c : Addr} {o : HO}, c ∉ D :: B → H4 c = some o → (upd H4 D (.lst (ys ++ [y]))) c = some o := fun hc e => (upd_ne fun q => hc (by rw [q]; exact List.mem_cons_self ..)).trans e
          refine ⟨ys, s4 _ _ q1, by rw [ly]; exact len_ok (by omega), ys ++ [y], upd_same, by rw [List.length_append, ly] <;> rfl, ?_, fun b o e => (upd_ne (ne_of_none e hD)).trans (s4 _ _ (z _ _ e))⟩
          rw [List.take_add_one, ev]
          exact Paired.snoc (Paired.mapP pr fun _ _ e => (e.to fun c o _ h => s4 _ _ h).to fun c o hc h => ne hc h) (ex.to fun c o hc h => ne hc h)
      rintro Hx ⟨ys, q1, ly, pr, z⟩
      rw [List.take_length] at pr
      exact k _ _ (.inr (.inl ⟨a, D, xs, ys, rfl, rfl, h0, nB hD, z _ _ h1, q1, Paired.mapP pr fun _ _ e => e.less fun c hc => List.mem_cons_of_mem _ hc, h3⟩)) z
    · refine ⟨_, rfl, _, _, .type "tuple", _, false, rfl, .ty _, .base (.tup h1), kit_ty (by decide +kernel), _, rfl, ?_⟩
      refine iteF ?_
      refine ⟨_, rfl, _, _, .type "tuple", _, false, rfl, .ty _, .base (.tup h1), kit_ty (by decide +kernel), _, rfl, ?_⟩
      refine iteF ?_
      refine ⟨_, rfl, _, _, .type "tuple", _, true, rfl, .ty _, .base (.tup h1), kit_ty (by decide +kernel), _, rfl, ?_⟩
      refine iteT ?_
      refine ⟨_, rfl, a, rfl, ⟨_, SqT.of h1⟩, fun D hD => ?_⟩
      refine lc_tup (K := K) (a := a) (xs := xs) (fun i Hx => ∃ ys : List V, Hx D = some (.lst ys) ∧ ys.length = i ∧ Paired (Ex Hx m (D :: B)) (xs.take i) ys ∧ Same H Hx) ⟨[], upd_same, rfl, by rw [List.take_zero]; exact .nil, same_new hD⟩ (fun i Hx _ ⟨_, _, _, _, z⟩ => SqT.of (z _ _ h1)) ?_ ?_
      · rintro i v Hx ev ⟨ys, q1, ly, pr, z⟩
        have il := (List.getElem?_eq_some_iff.mp ev).1
        refine ⟨rfl, ?_⟩
        refine ⟨_, rfl, v, D :: B, rfl, ((h2 v (List.mem_of_getElem? ev)).more hD).to z, fun c hc => ?_, fun y H4 ex s4 => ?_⟩
        · rcases List.mem_cons.mp hc with rfl | hc
          · exact ⟨_, q1⟩
          · obtain ⟨o, e⟩ := hB c hc
            exact ⟨o, z _ _ e⟩
        · have ne : ∀ {c : Addr} {o : HO}, c ∉ D :: B → H4 c = some o → (upd H4 D (.lst (ys ++ [y]))) c = some o := fun hc e => (upd_ne fun q => hc (by rw [q]; exact List.mem_cons_self ..)).trans e
          refine ⟨ys, s4 _ _ q1, by rw [ly]; exact len_ok (by omega), ys ++ [y], upd_same, by rw [List.length_append, ly] <;> rfl, ?_, fun b o e => (upd_ne (ne_of_none e hD)).trans (s4 _ _ (z _ _ e))⟩
          rw [List.take_add_one, ev]
          exact Paired.snoc (Paired.mapP pr fun _ _ e => (e.to fun c o _ h => s4 _ _ h).to fun c o hc h => ne hc h) (ex.to fun c o hc h => ne hc h)
      rintro Hx ⟨ys, q1, ly, pr, z⟩
      rw [List.take_length] at pr
      refine ⟨D, _, rfl, .inl ⟨SqL.of q1, fun U nU => ?_⟩⟩
      have sU := same_new (o := .tup ys) nU
      exact k _ _ (.inr (.inr (.inl ⟨a, U, xs, ys, rfl, rfl, h0, nB (none_backB z nU), sU _ _ (z _ _ h1), upd_same, Paired.mapP pr fun _ _ e => (e.less fun c hc => List.mem_cons_of_mem _ hc).to fun c o _ h => sU _ _ h, h3⟩))) fun b o e => sU _ _ (z _ _ e)
    · refine ⟨_, rfl, _, _, .type "dict", _, true, rfl, .ty _, .base (.dT h1), kit_ty (by decide +kernel), _, rfl, ?_⟩
      refine iteT ?_
      refine ⟨a, _, h1, trivial, fun od => ?_⟩
      refine ⟨_, rfl, a, od, rfl, .inr ⟨[], upd_same, fun D hDn => ?_⟩⟩
      have nDa : D ≠ a := fun z => by
        rw [z, upd_same] at hDn
        cases hDn
      have hD0 : H D = none := (upd_ne nDa).symm.trans hDn
      refine lc_it (walk_keysT (d := a) (o := od) (kvs := [])) (fun j Hx => Hx D = some (.lst []) ∧ Same (upd H a (.frz od (.dT []))) Hx) ⟨upd_same, same_new hDn⟩ (fun j Hx _ ⟨_, z⟩ => z _ _ upd_same) ?_ ?_
      · rintro j v Hx H7 hj _ _
        exact absurd hj (Nat.not_lt_zero _)
      · rintro Hx ⟨q1, z⟩
        refine ⟨z _ _ upd_same, ?_⟩
        have hD5 : (upd Hx a (.dT [])) D = some (.lst []) := (upd_ne nDa).trans q1
        have s5 : Same H (upd Hx a (.dT [])) := fun b o e => by
          by_cases c : b = a
          · rw [c, h1] at e
            rw [c, ← e]
            exact upd_same
          · exact (upd_ne c).trans (z _ _ ((upd_ne c).trans e))
        refine ⟨D, [], [], rfl, SqL.of hD5, .nil, fun p np => ?_⟩
        have sp := same_new (o := .dT []) np
        have pa : a ≠ p := ne_of_none (s5 _ _ h1) np
        exact k _ _ (.inr (.inr (.inr ⟨a, p, [], [], rfl, rfl, pa, h0, nB (none_backB s5 np), sp _ _ (s5 _ _ h1), upd_same, .nil, Nat.zero_le _, h2, List.nodup_nil⟩))) fun b o e => sp _ _ (s5 _ _ e)
theorem same_all (F : FnP K "_law_same" sSame f fd) (T : Nm mg) (T6 : Nm6 mg) (bS : Binds K fd ["_law_thing"] []) (kS : PySem.W.keepIn K (.ref f) = true) (gS : mg "_law_same" = some (.ref f)) : ∀ n : Nat, FnOk P w K mg base CX0 n f fd ["_law_thing"] (spSame n)
  | 0 => ⟨fun _ _ _ _ h => h.elim, fun _ _ _ _ _ _ _ _ _ _ _ _ _ h => h.elim⟩
  | n + 1 => ok_same F T T6 bS kS gS (same_all F T T6 bS kS gS n)
end
end Yt

set_option Elab.async false
set_option linter.all false
set_option maxRecDepth 100000
set_option maxHeartbeats 2000000
namespace Yt
open PySem PySem.Spec PyProof.Rows L2
abbrev sThrees : Stmt := top 49
def spThrees (K : PySem.W.Frag) : Sp := fun vs H Q _ => ∃ (a : Addr) (ms : List Str), vs = [.ref a] ∧ SqL K H a (ms.map V.str) ∧ ms.length ≤ 5 ∧
  ∀ (L : Addr) (ts : List Addr) (H' : Hp), H L = none → H' L = some (.lst (ts.map V.ref)) → Paired (TupAt H') ts (growN ms 3) → Same H H' → Q (.ref L) H'
section
variable {P : Program} {w : World} {K : PySem.W.Frag} {mg : Str → Option Value} {base : Heap} {f : Addr} {fd : FuncData}
theorem scThrees : FnScope ["_law_marks_here", "_law_found", "_law_turn", "_law_longer", "_law_some", "_law_mark"] ["_law_marks_here"] (defScope sThrees) := ⟨rfl, rfl, rfl, by decide +kernel, rfl, by decide +kernel, by decide +kernel⟩
theorem ok_threes (F : FnP K "_law_threes" sThrees f fd) (T : Nm mg) : FnOk P w K mg base CX0 1 f fd ["_law_marks_here"] (spThrees K) := by
  refine F.ok scThrees (fun vs H Q E h => ?_) (fun cdv A outer s H vs Q E hr h => ?_)
  · obtain ⟨a, ms, rfl, _⟩ := h
    rfl
  · obtain ⟨a, ms, rfl, hS, few, k⟩ := h
    refine ⟨_, PSs.nox (pss_cons (ps_set (i := 1) scThrees.nd rfl (Or.inl rfl) (pe_lst (pa_cons (pe_tup pa_nil) pa_nil)))
      (pss_cons (ps_for PassesOwn.never rfl (pi_range1 rfl T.range (pa_cons pe_int pa_nil)) (pg_name (i := 2) scThrees.nd rfl (Or.inl rfl))
        (pss_cons (ps_set (i := 3) scThrees.nd rfl (Or.inl rfl) (pe_lst pa_nil))
        (pss_cons (ps_for PassesOwn.never rfl (pi_list (pv 1)) (pg_name (i := 4) scThrees.nd rfl (Or.inr rfl))
          (pss_one (ps_set (i := 3) scThrees.nd rfl (Or.inl rfl) (pe_op op_cat (pv 3) (pe_lc (own := [("_law_mark", 5)]) (g := gName 5) (tt := tYes) (te := tOp (rCatA K) (tVar 4) (tTup (tCons (tVar 5) tNil))) rfl scThrees.nd (pi_list (pv 0)) (blkOk_by (own := [("_law_mark", 5)]) (N := ["_law_marks_here", "_law_found", "_law_turn", "_law_longer", "_law_some", "_law_mark"]) (sc := defScope sThrees) (by decide +kernel))
            (fun _ _ _ _ _ => pg_name (i := 5) scThrees.nd rfl (Or.inl rfl)) (fun _ _ _ _ _ => pts_nil) (fun _ _ _ _ _ => pe_op op_catA (pv 4) (pe_tup (pa_cons (pv 5) pa_nil))))))))
        (pss_one (ps_set (i := 1) scThrees.nd rfl (Or.inl rfl) (pv 3))))))
      (pss_one (ps_ret (pv 1))))), ?_⟩
    have small5 : ∀ n, n ≤ 3 → (growN ms n).length ≤ 125 := fun n hn => by
      rw [growN_len]
      calc ms.length ^ n ≤ 5 ^ n := Nat.pow_le_pow_left few n
        _ ≤ 5 ^ 3 := Nat.pow_le_pow_right (by decide) hn
    have sz : ∀ {n : Nat}, n ≤ 1000 → n ≤ sizeLine := fun h => by
      rw [sizeLine_eq]
      omega
    refine ⟨(by show 0 ≤ sizeLine; decide), fun t0 nt0 => ⟨(by show 1 ≤ sizeLine; decide), fun L0 nL0 => ?_⟩⟩
    have s0 := same_new (o := .tup []) nt0
    have sL := same_new (o := .lst [V.ref t0]) nL0
    refine ⟨_, rfl, by decide, by decide, for_range (lo := 0) (n := 3) (fun i σ Hc => ∃ (v2 v3 v4 v5 : Option V) (L : Addr) (ts : List Addr), σ = [some (.ref a), some (.ref L), v2, v3, v4, v5] ∧ H L = none ∧ Hc L = some (.lst (ts.map V.ref)) ∧ Paired (TupAt Hc) ts (growN ms i) ∧ Same H Hc)
      ⟨none, none, none, none, L0, [t0], rfl, ?_, upd_same, .cons (sL _ _ upd_same) .nil, fun b o e => sL _ _ (s0 _ _ e)⟩ ?_ ?_⟩
    · cases e : H L0 with
      | none => rfl
      | some o =>
        rw [s0 _ _ e] at nL0
        cases nL0
    · rintro i σ Hc hi ⟨v2, v3, v4, v5, L, ts, rfl, nL, hL, hT, hH⟩
      have li := small5 i (by omega)
      have li1 := small5 (i + 1) (by omega)
      refine ⟨(by show 0 ≤ sizeLine; decide), fun G0 nG0 => ?_⟩
      have sG := same_new (o := .lst []) nG0
      have nGH : ∀ {q : Addr} {Hx : Hp}, Same H Hx → Hx q = none → H q = none := fun {q Hx} z e => by
        cases e2 : H q with
        | none => rfl
        | some o =>
          rw [z _ _ e2] at e
          cases e
      refine ⟨_, rfl, L, rfl, ⟨_, SqL.of (sG _ _ hL)⟩, for_list (K := K) (a := L) (xs := ts.map V.ref) (fun j σ Hd => ∃ (w2 w4 w5 : Option V) (G : Addr) (gs : List Addr), σ = [some (.ref a), some (.ref L), w2, some (.ref G), w4, w5] ∧ H G = none ∧ Hd G = some (.lst (gs.map V.ref)) ∧ Paired (TupAt Hd) gs (grow ms ((growN ms i).take j)) ∧ Same Hc Hd)
        ⟨some (.int (0 + i)), v4, v5, G0, [], rfl, nGH hH nG0, upd_same, .nil, sG⟩ (fun j σ Hd _ ⟨_, _, _, _, _, _, _, _, _, z⟩ => SqL.of (z _ _ hL)) ?_ ?_⟩
      · rintro j u σ Hd hj ⟨w2, w4, w5, G, gs, rfl, nG, hG, hgs, hD⟩
        obtain ⟨t, et, rfl⟩ : ∃ t, ts[j]? = some t ∧ V.ref t = u := by
          rw [List.getElem?_map] at hj
          exact Option.map_eq_some_iff.mp hj
        obtain ⟨sk, ek, ht⟩ := paired_at' hT et
        have hd1 : TupAt Hd t sk := hD _ _ ht
        have etk : (growN ms i).take (j + 1) = (growN ms i).take j ++ [sk] := by rw [List.take_add_one, ek] <;> rfl
        have gl : gs.length = (grow ms ((growN ms i).take j)).length := Paired.length hgs
        have grl : (grow ms ((growN ms i).take j)).length + ms.length ≤ 130 := by
          rw [grow_len, List.length_take]
          have h1 : min j (growN ms i).length * ms.length ≤ (growN ms i).length * ms.length := Nat.mul_le_mul_right _ (Nat.min_le_right _ _)
          have h2 : (growN ms i).length * ms.length = (growN ms (i + 1)).length := by rw [growN, grow_len]
          omega
        have hHd : Same H Hd := fun b o e => hD _ _ (hH _ _ e)
        refine ⟨_, rfl, _, rfl, a, rfl, ⟨_, hHd.seq hS⟩, fun D nD => ?_⟩
        have sD := same_new (o := .lst []) nD
        refine lc_list (K := K) (a := a) (xs := ms.map V.str) (fun c Hx => ∃ rs : List Addr, Hx D = some (.lst (rs.map V.ref)) ∧ Paired (fun r kk => r ≠ D ∧ TupAt Hx r kk) rs ((ms.take c).map fun z => sk ++ [Sum.inr z]) ∧ Same Hd Hx) ?_ ?_ ?_ ?_
        · exact ⟨[], upd_same, .nil, sD⟩
        · rintro c Hx hc ⟨rs, q1, q2, q3⟩
          exact q3.seq (hHd.seq hS)
        · rintro c x Hx hx ⟨rs, q1, q2, q3⟩
          obtain ⟨z, ez, rfl⟩ : ∃ z, ms[c]? = some z ∧ V.str z = x := by
            rw [List.getElem?_map] at hx
            exact Option.map_eq_some_iff.mp hx
          have hcl : c < ms.length := (List.getElem?_eq_some_iff.mp ez).1
          have emk : (ms.take (c + 1)).map (fun z => sk ++ [(Sum.inr z : Key)]) = (ms.take c).map (fun z => sk ++ [Sum.inr z]) ++ [sk ++ [Sum.inr z]] := by
            rw [List.take_add_one, ez, List.map_append] <;> rfl
          have rl : rs.length = c := by
            rw [Paired.length q2, List.length_map, List.length_take]
            omega
          have skl : sk.length = i := growN_each ms i sk (List.mem_of_getElem? ek)
          refine ⟨rfl, ?_⟩
          refine ⟨_, rfl, _, rfl, (by show 1 ≤ sizeLine; decide), fun t1 nt1 => ?_⟩
          have s1 := same_new (o := .tup [V.str z]) nt1
          have put : ∀ (r : Addr) (Hy : Hp), Same Hx Hy → Hx r = none → Hy r = some (.tup ((sk ++ [(Sum.inr z : Key)]).map kV)) →
              ∃ acc, Hy D = some (.lst acc) ∧ acc.length < sizeLine ∧ ∃ rs : List Addr, (upd Hy D (.lst (acc ++ [V.ref r]))) D = some (.lst (rs.map V.ref)) ∧ Paired (fun q kk => q ≠ D ∧ TupAt (upd Hy D (.lst (acc ++ [V.ref r]))) q kk) rs ((ms.take (c + 1)).map fun z => sk ++ [Sum.inr z]) ∧ Same Hd (upd Hy D (.lst (acc ++ [V.ref r]))) := by
            intro r Hy sy nr hr
            have rD : r ≠ D := fun q => by
              rw [q, q1] at nr
              cases nr
            refine ⟨_, sy _ _ q1, ?_, rs ++ [r], ?_, ?_, fun b o e => ?_⟩
            · rw [List.length_map, rl]
              exact len_ok (by omega)
            · rw [upd_same, List.map_append] <;> rfl
            · rw [emk]
              exact Paired.snoc (Paired.mapP q2 fun r' kk h => ⟨h.1, (upd_ne h.1).trans (sy _ _ h.2)⟩) ⟨rD, (upd_ne rD).trans hr⟩
            · exact (upd_ne (ne_of_none e nD)).trans (sy _ _ (q3 _ _ e))
          have ht1 := s1 _ _ (q3 _ _ hd1)
          refine ⟨t, t1, sk.map kV, [V.str z], rfl, rfl, SqT.of ht1, SqT.of upd_same, ?_, fun e0 => ?_, fun _ e1 => (by simp at e1), fun e0 _ r nr => ?_⟩
          · rw [List.length_map, skl]
            exact sz (show i + 1 ≤ 1000 by omega)
          · have : sk = [] := List.map_eq_nil_iff.mp e0
            refine put t1 _ s1 nt1 ?_
            rw [this]
            exact upd_same
          · refine put r _ (fun b o e => same_new nr _ _ (s1 _ _ e)) ?_ ?_
            · cases e : Hx r with
              | none => rfl
              | some o =>
                rw [s1 _ _ e] at nr
                cases nr
            · rw [upd_same, List.map_append] <;> rfl
        · rintro Hx ⟨rs, q1, q2, q3⟩
          rw [List.length_map, List.take_length] at q2
          have rl : rs.length = ms.length := by rw [Paired.length q2, List.length_map]
          refine ⟨G, D, gs.map V.ref, rs.map V.ref, rfl, rfl, q3 _ _ hG, q1, ?_, fun p np => ?_⟩
          · rw [List.length_map, List.length_map, gl, rl]
            exact sz (by omega)
          · have sp := same_new (o := .lst (gs.map V.ref ++ rs.map V.ref)) np
            refine ⟨_, _, _, p, gs ++ rs, rfl, ?_, ?_, ?_, fun b o e => sp _ _ (q3 _ _ (hD _ _ e))⟩
            · exact nGH (fun b o e => q3 _ _ (hHd _ _ e)) np
            · rw [upd_same, List.map_append]
            · rw [etk, grow_append]
              refine pair_app (Paired.mapP hgs fun r kk h => sp _ _ (q3 _ _ h)) ?_
              have e1 : grow ms [sk] = ms.map fun z => sk ++ [(Sum.inr z : Key)] := by
                unfold grow
                rw [List.flatMap_cons, List.flatMap_nil, List.append_nil]
              rw [e1]
              exact Paired.mapP q2 fun r kk h => sp _ _ h.2
      · rintro σ Hd ⟨w2, w4, w5, G, gs, rfl, nG, hG, hgs, hD⟩
        refine ⟨_, rfl, ?_⟩
        refine ⟨_, _, _, _, G, gs, rfl, nG, hG, ?_, fun b o e => hD _ _ (hH _ _ e)⟩
        rw [show (ts.map V.ref).length = (growN ms i).length by rw [List.length_map]; exact Paired.length hT, List.take_length] at hgs
        exact hgs
    · rintro σ Hc ⟨v2, v3, v4, v5, L, ts, rfl, nL, hL, hT, hH⟩
      exact ⟨_, rfl, k L ts Hc nL hL hT hH⟩
end
end Yt

set_option Elab.async false
set_option linter.all false
set_option maxRecDepth 100000
set_option maxHeartbeats 2000000
namespace Yt
open PySem PySem.Spec PyProof.Rows L2
/-! ### list comprehensions with any number of `for` -/
abbrev notedR (prog : Program) (w : World) (A : Around) (R : Result → Shared → Prop) (env : Env) : Value → Shared → Prop := notedBy (model prog w) A env fun e s' => R (.error e) s'
section
variable {prog : Program} {w : World} {A : Around} {R : Result → Shared → Prop} {s : Shared} {elt t i t' i' : Expr} {ifs ifs' : List Expr} {gs : List Comprehension} {sc : Scope} {p : Pos} {it acc : Value} {env : Env} {k : Nat}
theorem turn_out (h0 : gs[k]? = some ⟨t, i, ifs, 0⟩) (h1 : gs[k + 1]? = some ⟨t', i', ifs', 0⟩) : compTurn (.ListComp elt gs sc p) k it acc env = (do
    standAt i.pos
    match ← pyNext it with
    | none => pure (.done .next)
    | some v =>
      letOwnedTupleGo t it v
      assign t env v
      let ok ← forIn ifs true fun c r => if r = true then do let ok ← isTrue c env (eval c env); pure (ForInStep.yield ok) else pure (ForInStep.yield r)
      if ok then
        let x ← eval i' env
        standAt i'.pos
        let x ← foldedSetIterable i' env x
        let _ ← runOwn (.compStart (.ListComp elt gs sc p) (k + 1) (← holding [x] (pyIter x)) acc env) env
      again (.compLoop (.ListComp elt gs sc p) k it acc env)) := by
  unfold compTurn
  dsimp only
  rw [h0]
  dsimp only
  rw [h1]
  rfl
theorem turn_in (h0 : gs[k]? = some ⟨t, i, ifs, 0⟩) (h1 : gs[k + 1]? = none) : compTurn (.ListComp elt gs sc p) k it acc env = (do
    standAt i.pos
    match ← pyNext it with
    | none => pure (.done .next)
    | some v =>
      letOwnedTupleGo t it v
      assign t env v
      let ok ← forIn ifs true fun c r => if r = true then do let ok ← isTrue c env (eval c env); pure (ForInStep.yield ok) else pure (ForInStep.yield r)
      if ok then
        (do let _ ← call (.builtin "list.append") [acc, ← eval elt env])
      again (.compLoop (.ListComp elt gs sc p) k it acc env)) := by
  unfold compTurn
  dsimp only
  rw [h0]
  dsimp only
  rw [h1]
  rfl
abbrev tests (ifs : List Expr) (env : Env) : Sem Bool := forIn ifs true fun c r => if r = true then do let ok ← isTrue c env (eval c env); pure (ForInStep.yield ok) else pure (ForInStep.yield r)
/-- what a turn does when the tests let it -/
abbrev goesIn (elt : Expr) (acc : Value) (env : Env) (more : Sem PySem.Fin) : Sem PySem.Fin := do
  (do let _ ← call (.builtin "list.append") [acc, ← eval elt env])
  more
abbrev goesOut (e i' : Expr) (k : Nat) (acc : Value) (env : Env) (more : Sem PySem.Fin) : Sem PySem.Fin := do
  let x ← eval i' env
  standAt i'.pos
  let x ← foldedSetIterable i' env x
  let _ ← runOwn (.compStart e (k + 1) (← holding [x] (pyIter x)) acc env) env
  more
abbrev turnOf (e i t : Expr) (ifs : List Expr) (M : Sem PySem.Fin → Sem PySem.Fin) (k : Nat) (it acc : Value) (env : Env) : Sem PySem.Fin := do
  standAt i.pos
  match ← pyNext it with
  | none => pure (.done .next)
  | some v =>
    letOwnedTupleGo t it v
    assign t env v
    let ok ← tests ifs env
    if ok = true then M (again (.compLoop e k it acc env)) else again (.compLoop e k it acc env)
theorem turn_in' (h0 : gs[k]? = some ⟨t, i, ifs, 0⟩) (h1 : gs[k + 1]? = none) : compTurn (.ListComp elt gs sc p) k it acc env = turnOf (.ListComp elt gs sc p) i t ifs (goesIn elt acc env) k it acc env := turn_in h0 h1
theorem turn_out' (h0 : gs[k]? = some ⟨t, i, ifs, 0⟩) (h1 : gs[k + 1]? = some ⟨t', i', ifs', 0⟩) : compTurn (.ListComp elt gs sc p) k it acc env = turnOf (.ListComp elt gs sc p) i t ifs (goesOut (.ListComp elt gs sc p) i' k acc env) k it acc env := by
  rw [turn_out h0 h1]
theorem loop_gen {M : Sem PySem.Fin → Sem PySem.Fin} (hM : ∀ it, compTurn (.ListComp elt gs sc p) k it acc env = turnOf (.ListComp elt gs sc p) i t ifs M k it acc env) (I : Nat → Shared → Prop)
    (turn : ∀ n s, I n s → wpAny (model prog w) A (pyNext it) (fun r s₁ => match r with
      | none => R (.ok .next) s₁
      | some v => wpAny (model prog w) A (letOwnedTupleGo t it v) (fun _ s₂ => wpAny (model prog w) A (assign t env v) (fun _ s₃ => wpAny (model prog w) A (tests ifs env) (fun ok s₄ =>
          if ok = true then ∀ (more : Sem PySem.Fin) (Qf : PySem.Fin → Shared → Prop), (∀ s₅, (∃ m, m < n ∧ I m s₅) → wpAny (model prog w) A more Qf (notedR prog w A R env) s₅) → wpAny (model prog w) A (M more) Qf (notedR prog w A R env) s₄ else ∃ m, m < n ∧ I m s₄) (notedR prog w A R env) s₃) (notedR prog w A R env) s₂) (notedR prog w A R env) s₁) (notedR prog w A R env) s)
    (n : Nat) (h : I n s) : codeAny (model prog w) A (.compLoop (.ListComp elt gs sc p) k it acc env) R s := by
  refine codeAny_loop rfl I (fun n s hI => ?_) n h
  show wpAny _ A ((compTurn (.ListComp elt gs sc p) k it acc env).onRaise (fun x => do noteFrame x env; theTreesLotGoes x)) _ _ s
  refine wpAny_noted ?_
  rw [hM]
  refine wpAny_bind (wpAny_standAt (wpAny_bind (wpAny_mono (turn n s hI) (fun r s₁ h₁ => ?_) fun _ _ q => q)))
  cases r with
  | none => exact wpAny_pure h₁
  | some v =>
    refine wpAny_bind (wpAny_mono h₁ (fun _ s₂ h₂ => wpAny_bind (wpAny_mono h₂ (fun _ s₃ h₃ => wpAny_bind (wpAny_mono h₃ (fun ok s₄ h₄ => ?_) fun _ _ q => q)) fun _ _ q => q)) fun _ _ q => q)
    cases ok with
    | false =>
      first
        | exact wpAny_pure ⟨rfl, h₄⟩
        | exact wpAny_bind (wpAny_pure (wpAny_pure ⟨rfl, h₄⟩))
    | true => exact h₄ _ _ fun s₅ h₅ => wpAny_pure ⟨rfl, h₅⟩
/-- the next clause's start -/
theorem start_gen (h0 : codeAny (model prog w) A (.compLoop (.ListComp elt gs sc p) k it acc env) R s) (hk : gs[k]? = some ⟨t, i, ifs, 0⟩)
    (h : wpAny (model prog w) A (pyIter it) (fun it' s' => codeAny (model prog w) A (.compLoop (.ListComp elt gs sc p) k it' acc env) R s') (notedR prog w A R env) s) :
    codeAny (model prog w) A (.compStart (.ListComp elt gs sc p) k it acc env) R s := by
  refine codeAny_of_tree ?_
  show wpAny _ _ ((compStart (.ListComp elt gs sc p) k it acc env).onRaise (fun x => do noteFrame x env; standAt theWindowsPlace)) _ _ s
  refine wpAny_notedAt ?_
  unfold compStart
  have ec : (clausesOf (.ListComp elt gs sc p))[k]? = some ⟨t, i, ifs, 0⟩ := hk
  rw [ec]
  show wpAny _ _ (ask >>= _) _ _ s
  refine wpAny_bind (wpAny_askSetting (wpAny_ite ?_))
  split
  · first
      | exact wpAny_bind (wpAny_pure (wpAny_pure (And.intro rfl h0)))
      | exact wpAny_pure (And.intro rfl h0)
  · refine wpAny_bind (wpAny_rule ?_)
    show wpAny _ _ (standAt i.pos >>= _) _ _ s
    exact wpAny_bind (wpAny_standAt (wpAny_bind (wpAny_mono h (fun _ _ q => wpAny_pure (And.intro rfl q)) fun _ _ q => q)))
end
/-- a clause as it is read; vs: the names that are set anew from here on -/
structure Cl where
  wi : TI
  g : TG
  tt : TT
  vs : List Nat
def topVs : List Cl → List Nat
  | [] => []
  | c :: _ => c.vs
/-- behind the tests of a clause: the clauses that are left, then the item is put to the list at D; N is reached -/
def bodyN (te : TE) (D : Addr) : List Cl → L2.St → Hp → (Hp → Prop) → Prop
  | [], σ, H, N => te σ H fun y H1 => ∃ acc, H1 D = some (.lst acc) ∧ acc.length < sizeLine ∧ N (upd H1 D (.lst (acc ++ [y])))
  | c :: cs, σ, H, N => c.wi σ H fun J H1 => ∃ W : Nat → Nat → Hp → Prop, (∃ m, W 0 m H1) ∧ ∀ j n H, W j n H → (J.stop j H ∧ N H) ∨
      (J.go j H ∧ ∃ N1 : Hp → Prop, (∀ H', N1 H' → ∃ n', n' < n ∧ W (j + 1) n' H') ∧ ∀ x H', J.yld j H x H' → c.g x (wipe σ c.vs) H' fun σ3 H5 => wipe σ3 c.vs = wipe σ c.vs ∧ c.tt σ3 H5 fun b H6 => if b = true then bodyN te D cs σ3 H6 N1 else N1 H6)
structure ClOk (Y : Cx) (q : Comprehension) (c : Cl) : Prop where
  sync : q.is_async = 0
  pi : PI Y q.target q.iter c.wi
  pg : PG Y q.target c.g
  pt : PTs Y q.ifs c.tt
  fold : ∀ x, foldedSetIterable q.iter Y.env x = pure x
def goesK (e elt : Expr) (a : Value) (env : Env) (k : Nat) : List Comprehension → Sem PySem.Fin → Sem PySem.Fin
  | [] => goesIn elt a env
  | q :: _ => goesOut e q.iter k a env
def Chain : List Cl → Prop
  | [] => True
  | c :: cs => (∀ i ∈ topVs cs, i ∈ c.vs) ∧ Chain cs
theorem drop_head {α : Type} {gs qs : List α} {q : α} {k : Nat} (h : gs.drop k = q :: qs) : gs[k]? = some q ∧ gs.drop (k + 1) = qs := by
  have h1 : (gs.drop k)[0]? = some q := by rw [h] <;> rfl
  rw [List.getElem?_drop, Nat.add_zero] at h1
  refine ⟨h1, ?_⟩
  rw [← List.drop_drop, h] <;> rfl
theorem drop_nil' {α : Type} {gs : List α} {k : Nat} (h : gs.drop k = []) : gs[k]? = none := by
  rw [List.getElem?_eq_none_iff]
  exact List.drop_eq_nil_iff.mp h
section
variable {Y : Cx} {elt : Expr} {gs : List Comprehension} {sc : Scope} {p : Pos} {te : TE} {D : Addr}
theorem turnK {k : Nat} {q : Comprehension} {qs : List Comprehension} {a it : Value} {env : Env} (h0 : gs[k]? = some q) (hq : q.is_async = 0) (h1 : gs.drop (k + 1) = qs) (hs : ∀ r ∈ qs, r.is_async = 0) :
    compTurn (.ListComp elt gs sc p) k it a env = turnOf (.ListComp elt gs sc p) q.iter q.target q.ifs (goesK (.ListComp elt gs sc p) elt a env k qs) k it a env := by
  obtain ⟨t, i, ifs, as⟩ := q
  simp only at hq
  subst hq
  cases qs with
  | nil => exact turn_in' h0 (drop_nil' h1)
  | cons r rs =>
    obtain ⟨t', i', ifs', as'⟩ := r
    have hr : as' = 0 := hs ⟨t', i', ifs', as'⟩ List.mem_cons_self
    subst hr
    exact turn_out' h0 (drop_head h1).1
theorem body_ok (calm : Y.calm = true) (hx : ∀ e s, Y.xe e s → False) (pe : PE Y elt te) : ∀ (cs : List Cl) (qs : List Comprehension) (k : Nat), gs.drop (k + 1) = qs → Paired (ClOk Y) qs cs → Chain cs → ∀ (pins : List (Addr × Obj)) (s : Shared) (σ : L2.St) (H : Hp) (N : Hp → Prop), Inv Y pins σ H s → bodyN te D cs σ H N →
    ∀ (more : Sem PySem.Fin) (Qf : PySem.Fin → Shared → Prop) (R : Result → Shared → Prop), (∀ s' H', Inv Y pins (wipe σ (topVs cs)) H' s' → N H' → wpAny (model Y.prog Y.w) Y.A more Qf (notedR Y.prog Y.w Y.A R Y.env) s') →
      wpAny (model Y.prog Y.w) Y.A (goesK (.ListComp elt gs sc p) elt (.ref D) Y.env k qs more) Qf (notedR Y.prog Y.w Y.A R Y.env) s
  | [], [], k, hd, .nil, _, pins, s, σ, H, N, I, h, more, Qf, R, fin => by
    show wpAny _ _ (goesIn elt (.ref D) Y.env more) _ _ _
    refine wpAny_bind (wpAny_bind (wpAny_mono (pe.run pins s σ H _ I h) (fun z s1 hz => ?_) fun e s' he => (hx e s' he).elim))
    obtain ⟨y, H1, I1, r1, acc, hD, few, nx⟩ := hz
    refine wpAny_bind ?_
    exact app_ok I1 hD few r1 fun s2 I2 => wpAny_pure (fin s2 _ I2 nx)
  | c :: cs, q :: qs, k, hd, .cons hc ht, hch, pins, s, σ, H, N, I, h, more, Qf, R, fin => by
    obtain ⟨gk, gd⟩ := drop_head hd
    have asy : ∀ r ∈ qs, r.is_async = 0 := by
      have go : ∀ {qs : List Comprehension} {cs : List Cl}, Paired (ClOk Y) qs cs → ∀ r ∈ qs, r.is_async = 0 := by
        intro qs cs h
        induction h with
        | nil => intro r hr; exact nomatch hr
        | cons h _ ih =>
          intro r hr
          rcases List.mem_cons.mp hr with rfl | hr
          · exact h.sync
          · exact ih r hr
      exact go ht
    show wpAny _ _ (goesOut (.ListComp elt gs sc p) q.iter k (.ref D) Y.env more) _ _ _
    refine wpAny_bind (wpAny_mono (hc.pi.run pins s σ H _ I h) (fun xv s1 h1 => ?_) fun e s' he => (hx e s' he).elim)
    refine wpAny_bind (wpAny_standAt (wpAny_bind (wpAny_of_eq (hc.fold xv) (wpAny_bind (wpAny_holding (wpAny_mono h1 (fun itv s2 h2 => ?_) fun e s' he => (hx e s' he).elim))))))
    obtain ⟨it1, fp1, tn1, J1, H1, e1, I1, T1, st1, f1, W, ⟨m1, w1⟩, turn⟩ := h2
    subst e1
    have stat : ∀ {G : Hp}, (∀ b ∈ fp1, G b = none) → ∀ b ∈ fp1, FpOk Y pins G b := fun hn b hb => ⟨hn b hb, (f1 b hb).2⟩
    have loop : codeAny (model Y.prog Y.w) Y.A (.compLoop (.ListComp elt gs sc p) (k + 1) (.ref it1) (.ref D) Y.env) (fun r s' => match r with
        | .ok _ => ∃ G, Inv Y pins (wipe σ c.vs) G s' ∧ N G
        | .error _ => False) s2 := by
      refine loop_gen (M := goesK (.ListComp elt gs sc p) elt (.ref D) Y.env (k + 1) qs) (fun it => turnK gk hc.sync gd asy) (fun n t => ∃ j G, Inv Y pins (wipe σ c.vs) G t ∧ tn1 j t.heap ∧ (∀ b ∈ fp1, G b = none) ∧ W j n G) ?_ m1 ⟨0, H1, I1.weak (wipe_length _ _) (fun j v e => (wipe_some e).1), st1, fun b hb => (f1 b hb).1, w1⟩
      rintro n s3 ⟨j, H3, I3, st3, n3, w3⟩
      rcases turn j n H3 w3 with ⟨stop, nx⟩ | ⟨go, N1, hN1, step⟩
      · refine thnF (T1.done Y rfl rfl rfl calm j _ s3 (wipe σ c.vs) H3 (fun _ _ => False) I3 (stat n3) st3 stop) fun r s4 ⟨hr, I4⟩ => ?_
        subst hr
        exact ⟨H3, I4, nx⟩
      · refine thnF (T1.item Y rfl rfl rfl calm j _ s3 (wipe σ c.vs) H3 (fun _ _ => False) I3 (stat n3) st3 go) fun r s4 ⟨u, hr, h4⟩ => ?_
        subst hr
        refine thnF h4 fun _ s5 ⟨x, H5, I5, r5, y5, st5, n5⟩ => ?_
        refine wpAny_mono (hc.pg.run _ s5 (wipe σ c.vs) H5 x u _ (I5.pinned (stat n5) (T1.obj _ _ st5)) r5 (step x H5 y5)) (fun _ s6 h6 => ?_) fun e s' he => (hx e s' he).elim
        obtain ⟨σ6, H6, I6, hw6, q6⟩ := h6
        refine wpAny_mono (hc.pt.run _ s6 σ6 H6 _ I6 q6) (fun b s7 h7 => ?_) fun e s' he => (hx e s' he).elim
        obtain ⟨H7, I7, q7⟩ := h7
        have back : ∀ {t : Shared} {G : Hp} {τ : L2.St}, Inv Y (pins ++ pinsAt fp1 s5.heap) τ G t → (wipe σ c.vs).length = τ.length → (∀ (i : Nat) v, (wipe σ c.vs)[i]? = some (some v) → τ[i]? = some (some v)) → N1 G →
            ∃ m, m < n ∧ ∃ j G, Inv Y pins (wipe σ c.vs) G t ∧ tn1 j t.heap ∧ (∀ b ∈ fp1, G b = none) ∧ W j m G := fun {t G τ} J hl hkn nx => by
          obtain ⟨n', lt, w'⟩ := hN1 G nx
          have held : ∀ b ∈ fp1, ∀ o, s5.heap.get? b = some o → t.heap.get? b = some o ∧ G b = none := fun b hb o e =>
            have z := J.pin (b, o) (List.mem_append_right _ (List.mem_append_right _ (mem_pinsAt hb e)))
            ⟨z.1, z.2.1⟩
          refine ⟨n', lt, j + 1, G, J.unpinned.weak hl hkn, T1.keep _ _ _ st5 fun b hb o e => (held b hb o e).1, fun b hb => ?_, w'⟩
          obtain ⟨o, e, _⟩ := T1.obj _ _ st5 b hb
          exact (held b hb o e).2
        have l6 : (wipe σ c.vs).length = σ6.length := by rw [← hw6, wipe_length]
        have k6 : ∀ (i : Nat) v, (wipe σ c.vs)[i]? = some (some v) → σ6[i]? = some (some v) ∧ i ∉ c.vs := fun i v e => by
          rw [← hw6] at e
          exact wipe_some e
        cases b with
        | false => exact back I7 l6 (fun i v e => (k6 i v e).1) q7
        | true =>
          intro more2 Qf2 hm
          refine body_ok calm hx pe cs qs (k + 1) gd ht hch.2 (pins ++ pinsAt fp1 s5.heap) s7 σ6 H7 N1 I7 q7 more2 Qf2 _ fun t G J nx => hm t (back J (l6.trans (wipe_length σ6 _).symm) (fun i v e => ?_) nx)
          obtain ⟨e1, e2⟩ := k6 i v e
          rw [wipe_out fun z => e2 (hch.1 i z)]
          exact e1
    refine wpAny_bind (wpAny_runOwn ?_)
    rw [Around.mark_none]
    have gk' : gs[k + 1]? = some ⟨q.target, q.iter, q.ifs, 0⟩ := by
      rw [gk]
      obtain ⟨t, i, ifs, a0⟩ := q
      have z : a0 = 0 := hc.sync
      rw [z]
    refine codeAny_mono (start_gen loop gk' (T1.self Y.A 0 _ _ _ st1 loop)) fun r s' hr => ?_
    cases r with
    | ok f =>
      obtain ⟨G, J, nx⟩ := hr
      exact fin s' G J nx
    | error e => exact hr.elim
end
/-- [elt for .. for .. for ..]: c the first clause, cs the others -/
def tLcN (c : Cl) (cs : List Cl) (te : TE) : TE := fun σ H Q => c.wi σ H fun J H1 => ∀ D, H1 D = none → ∃ W : Nat → Nat → Hp → Prop, (∃ m, W 0 m (upd H1 D (.lst []))) ∧ ∀ i n H, W i n H → (J.stop i H ∧ Q (.ref D) H) ∨
  (J.go i H ∧ ∃ N1 : Hp → Prop, (∀ H', N1 H' → ∃ n', n' < n ∧ W (i + 1) n' H') ∧ ∀ x H', J.yld i H x H' → c.g x (wipe σ c.vs) H' fun σ2 H2 => wipe σ2 c.vs = wipe σ c.vs ∧ c.tt σ2 H2 fun b H3 => if b = true then bodyN te D cs σ2 H3 N1 else N1 H3)
section
variable {X : Cx}
theorem pe_lcN {elt : Expr} {q : Comprehension} {qs : List Comprehension} {sc : Scope} {own : List (Str × Nat)} {p : Pos} {c : Cl} {cs : List Cl} {te : TE} (calm : X.calm = true) (nd : X.N.Nodup) (as : q.is_async = 0) (hi : PI X q.target q.iter c.wi) (hf : ∀ x, foldedSetIterable q.iter X.env x = pure x)
    (ok : BlkOk X.N X.env.scope sc own) (hvs : c.vs = own.map (·.2)) (hch : Chain (c :: cs)) (hg : ∀ s H C cl fp, PG (X.blk s H sc (compEnvC sc cl C X.env) fp) q.target c.g) (ht : ∀ s H C cl fp, PTs (X.blk s H sc (compEnvC sc cl C X.env) fp) q.ifs c.tt)
    (hcs : ∀ s H C cl fp, Paired (ClOk (X.blk s H sc (compEnvC sc cl C X.env) fp)) qs cs) (he : ∀ s H C cl fp, PE (X.blk s H sc (compEnvC sc cl C X.env) fp) elt te) : PE X (.ListComp elt (q :: qs) sc p) (tLcN c cs te) := by
  obtain ⟨t, i, ifs, a0⟩ := q
  have as' : a0 = 0 := as
  subst as'
  refine ⟨fun pins s σ H Q I h => ?_⟩
  rw [arm_eval_ListComp]
  have clo : ∀ y ∈ sc.names, y.2 = .free → ∃ z, X.env.cells.lookup y.1 = some z := fun y hy e => (ok.free y hy e).elim (fun k => I.ok.has _ (.inl k)) fun k => I.ok.has _ (.inr k)
  show wpAny _ _ (comprehension (.ListComp elt (⟨t, i, ifs, 0⟩ :: qs) sc p) sc X.env (firstIterPos (⟨t, i, ifs, 0⟩ :: qs) p) (newList []) false (eval i X.env)) _ _ _
  refine wpAny_comprehension_free (use := none) rfl hf (closure_ok clo) ok.kind (fun y hy e => by rw [ok.uniq y hy, e]) (thn (hi.run pins s σ H _ I h) fun _ s1 hx => thn hx fun _ s2 ⟨a, fp, tn, J, H2, ea, I2, T, st2, f2, qq⟩ => ?_)
  subst ea
  refine wpAny_newObj_type (newEnv_comp ?_) (by show 0 ≤ sizeLine; decide)
  obtain ⟨D, hD⟩ : ∃ D, D = s2.heap.objs.size := ⟨_, rfl⟩
  rw [← hD]
  have nD : H2 D = none := I2.hok.fresh (Nat.le_of_eq hD.symm)
  obtain ⟨W, ⟨m0, w0⟩, turn⟩ := qq D nD
  have I3 : Inv X pins σ (upd H2 D (.lst [])) ⟨s2.heap.push { cls := .type "list", data := .seq ([] : List Value).toArray }, s2.gens, s2.drawn, s2.toks, s2.os⟩ := by
    refine I2.laid (t' := s2.toks) (fun b o e => Heap.get?_push_of_some _ e) (Nat.le_of_eq hD.symm) ⟨Nat.zero_le _, [], 0, .nil, ?_⟩
    rw [hD]
    exact Heap.get?_push_size _ rfl
  have live : ∀ b ∈ fp, b < s2.heap.objs.size := fun b hb => (T.obj _ _ st2 b hb).elim fun o e => Heap.lt_size e.1
  have f3 : ∀ b ∈ fp, FpOk X pins (upd H2 D (.lst [])) b ∧ b < (s2.heap.push { cls := .type "list", data := .seq ([] : List Value).toArray }).objs.size := fun b hb =>
    ⟨⟨(upd_ne (by rw [hD]; exact Nat.ne_of_lt (live b hb))).trans (f2 b hb).1, (f2 b hb).2⟩, by rw [Heap.size_push]; exact Nat.lt_succ_of_lt (live b hb)⟩
  have st3 : tn 0 (s2.heap.push { cls := .type "list", data := .seq ([] : List Value).toArray }) := T.keep _ _ _ st2 fun b _ o e => Heap.get?_push_of_some _ e
  have I4 := block_start I3 ok nd f3
  generalize hs3 : (⟨s2.heap.push { cls := .type "list", data := .seq ([] : List Value).toArray }, s2.gens, s2.drawn, s2.toks, s2.os⟩ : Shared) = s3 at I3 I4 ⊢
  have h3 : s3.heap = s2.heap.push { cls := .type "list", data := .seq ([] : List Value).toArray } := by rw [← hs3]
  rw [← h3] at f3 st3
  have pg := hg s3 (upd H2 D (.lst [])) s3.heap.objs.size (cellsFrom (s3.heap.objs.size + 1) sc.names (cloFrom X.env.cells sc.names [])) fp
  have pt := ht s3 (upd H2 D (.lst [])) s3.heap.objs.size (cellsFrom (s3.heap.objs.size + 1) sc.names (cloFrom X.env.cells sc.names [])) fp
  have pc := hcs s3 (upd H2 D (.lst [])) s3.heap.objs.size (cellsFrom (s3.heap.objs.size + 1) sc.names (cloFrom X.env.cells sc.names [])) fp
  have pe := he s3 (upd H2 D (.lst [])) s3.heap.objs.size (cellsFrom (s3.heap.objs.size + 1) sc.names (cloFrom X.env.cells sc.names [])) fp
  have unt : ∀ b ∈ fp, (upd H2 D (.lst [])) b = none := fun b hb => (f3 b hb).1.1
  show codeAny _ _ (.compStart (.ListComp elt (⟨t, i, ifs, 0⟩ :: qs) sc p) 0 (.ref a) (.ref D) (compEnvC sc (cellsFrom (s3.heap.objs.size + 1) sc.names (cloFrom X.env.cells sc.names [])) s3.heap.objs.size X.env)) _ ({ s3 with heap := pushCells (s3.heap.push { cls := .type "dict", data := .dict #[] }) sc.names } : Shared)
  obtain ⟨ce, hce⟩ : ∃ z, z = compEnvC sc (cellsFrom (s3.heap.objs.size + 1) sc.names (cloFrom X.env.cells sc.names [])) s3.heap.objs.size X.env := ⟨_, rfl⟩
  rw [← hce] at I4 pg pt pc pe ⊢
  have cL : ce.locals = s3.heap.objs.size := by rw [hce] <;> rfl
  obtain ⟨H3, hH3⟩ : ∃ G, G = upd H2 D (.lst []) := ⟨_, rfl⟩
  rw [← hH3] at I3 I4 pg pt pc pe w0 unt f3
  generalize hs4 : ({ s3 with heap := pushCells (s3.heap.push { cls := .type "dict", data := .dict #[] }) sc.names } : Shared) = s4 at I4 ⊢
  rw [← hvs] at I4
  have st4 : tn 0 s4.heap := T.keep _ _ _ st3 fun b _ o e => by
    rw [← hs4]
    exact pushCells_keeps _ _ _ _ (Heap.get?_push_of_some _ e)
  have pinned : ∀ {σ' : L2.St} {G : Hp} {t : Shared}, Inv (X.blk s3 H3 sc ce fp) [] σ' G t → (∀ b ∈ fp, G b = none) → ∀ b ∈ fp, FpOk (X.blk s3 H3 sc ce fp) [] G b := fun {σ' G t} J' hn b hb =>
    ⟨hn b hb, (J'.ok.exf b hb).1, J'.ok.exfs b hb, .inl hb, fun x z e => (J'.ok.exf b hb).2 x z e, fun r hr => absurd (show r ∈ ([] : List (Addr × Obj)) ++ [] from hr) (by simp)⟩
  have asy : ∀ r ∈ qs, r.is_async = 0 := by
    have go : ∀ {Y : Cx} {qs : List Comprehension} {cs : List Cl}, Paired (ClOk Y) qs cs → ∀ r ∈ qs, r.is_async = 0 := by
      intro Y qs cs h
      induction h with
      | nil => intro r hr; exact nomatch hr
      | cons h _ ih =>
        intro r hr
        rcases List.mem_cons.mp hr with rfl | hr
        · exact h.sync
        · exact ih r hr
    exact go pc
  have loop : codeAny (model X.prog X.w) X.A (.compLoop (.ListComp elt (⟨t, i, ifs, 0⟩ :: qs) sc p) 0 (.ref a) (.ref D) ce) (compPost (model X.prog X.w) X.A X.xe none (EP X pins σ Q) (.ref D) s3.heap.objs.size) s4 := by
    refine loop_gen (M := goesK (.ListComp elt (⟨t, i, ifs, 0⟩ :: qs) sc p) elt (.ref D) ce 0 qs) (fun it => turnK rfl as rfl asy) (fun n t => ∃ i G, Inv (X.blk s3 H3 sc ce fp) [] (wipe σ c.vs) G t ∧ tn i t.heap ∧ (∀ b ∈ fp, G b = none) ∧ W i n G) ?_ m0 ⟨0, H3, I4, st4, unt, w0⟩
    rintro n t5 ⟨i, H5, I5, st5, n5, w5⟩
    rcases turn i n H5 w5 with ⟨stop, nx⟩ | ⟨go, N1, hN, step⟩
    · refine thnF (T.done (X.blk s3 H3 sc ce fp) rfl rfl rfl calm i [] t5 _ H5 (fun _ _ => False) I5 (pinned I5 n5) st5 stop) fun r t6 ⟨hr, I6⟩ => ?_
      subst hr
      have nC : H5 s3.heap.objs.size = none := by
        have z : H5 ce.locals = none := I6.free
        rwa [cL] at z
      obtain ⟨mm, hn, _⟩ := I6.loc
      have hn' : t6.heap.Ns ce.locals mm := hn
      rw [cL] at hn'
      have I7 : Inv X pins σ H5 t6 := I3.call' (ch := fp) I6.os I6.base I6.hok I6.bare fun b hb => ⟨(f3 b hb).1.2.2.2.1, (f3 b hb).1.2.1, (f3 b hb).1.2.2.2.2.1, (f3 b hb).1.2.2.2.2.2⟩
      refine ⟨mm, hn', fun h2 sb => ?_⟩
      obtain ⟨f0, f1, f2, f3, f4, f5⟩ := I3.fpOk (Nat.le_refl _) nC
      exact ⟨.ref D, H5, I7.turned (t' := t6.toks) (fun b o hb e => (sb.2 b hb).trans e) f0 f1 f3 f4 f5, rfl, nx⟩
    · refine thnF (T.item (X.blk s3 H3 sc ce fp) rfl rfl rfl calm i [] t5 _ H5 (fun _ _ => False) I5 (pinned I5 n5) st5 go) fun r t6 ⟨u, hr, h6⟩ => ?_
      subst hr
      refine thnF h6 fun _ t7 ⟨x, H7, I7, r7, y7, st7, n7⟩ => ?_
      refine thnF (pg.run _ t7 _ H7 x u _ (I7.pinned (pinned I7 n7) (T.obj _ _ st7)) r7 (step x H7 y7)) fun _ t8 ⟨σ8, H8, I8, hw8, q8⟩ => ?_
      refine thnF (pt.run _ t8 σ8 H8 _ I8 q8) fun b t9 ⟨H9, I9, q9⟩ => ?_
      have back : ∀ {t : Shared} {G : Hp} {τ : L2.St}, Inv (X.blk s3 H3 sc ce fp) ([] ++ pinsAt fp t7.heap) τ G t → (wipe σ c.vs).length = τ.length → (∀ (i : Nat) v, (wipe σ c.vs)[i]? = some (some v) → τ[i]? = some (some v)) → N1 G → ∃ m, m < n ∧ ∃ i G, Inv (X.blk s3 H3 sc ce fp) [] (wipe σ c.vs) G t ∧ tn i t.heap ∧ (∀ b ∈ fp, G b = none) ∧ W i m G := fun {t G τ} J' hl hk nx => by
        obtain ⟨m', lt, w'⟩ := hN G nx
        have held : ∀ b ∈ fp, ∀ o, t7.heap.get? b = some o → t.heap.get? b = some o ∧ G b = none := fun b hb o e =>
          have z := J'.pin (b, o) (List.mem_append_right _ (List.mem_append_right _ (mem_pinsAt hb e)))
          ⟨z.1, z.2.1⟩
        refine ⟨m', lt, i + 1, G, (J'.unpinned (pins := [])).weak hl hk, T.keep _ _ _ st7 fun b hb o e => (held b hb o e).1, fun b hb => ?_, w'⟩
        obtain ⟨o, e, _⟩ := T.obj _ _ st7 b hb
        exact (held b hb o e).2
      have l8 : (wipe σ c.vs).length = σ8.length := by rw [← hw8, wipe_length]
      have k8 : ∀ (i : Nat) v, (wipe σ c.vs)[i]? = some (some v) → σ8[i]? = some (some v) ∧ i ∉ c.vs := fun i v e => by
        rw [← hw8] at e
        exact wipe_some e
      cases b with
      | false => exact back I9 l8 (fun i v e => (k8 i v e).1) q9
      | true =>
        intro more Qf hm
        refine body_ok (Y := X.blk s3 H3 sc ce fp) calm (fun _ _ z => z) pe cs qs 0 rfl pc hch.2 ([] ++ pinsAt fp t7.heap) t9 σ8 H9 N1 I9 q9 more Qf _ fun t G J nx => hm t (back J (l8.trans (wipe_length σ8 _).symm) (fun i v e => ?_) nx)
        obtain ⟨e1, e2⟩ := k8 i v e
        rw [wipe_out fun z => e2 (hch.1 i z)]
        exact e1
  exact codeAny_compStart_list loop (T.self X.A 0 _ _ _ st4 loop)
end
end Yt

set_option Elab.async false
set_option linter.all false
set_option maxRecDepth 100000
set_option maxHeartbeats 2000000
namespace Yt
open PySem PySem.Spec PyProof.Rows L2
abbrev sThreesOf : Stmt := top 24
/-- a clause over what is walked: Pv by the turn -/
theorem nest_it {J : It} {n : Nat} {G : Hp → Prop} {S : Nat → Hp → V → Hp → Prop} (w : Walk J n G S) {te : TE} {D : Addr} {c : Cl} {cs : List Cl} {σ : L2.St} {H1 : Hp} {N : Hp → Prop} (Pv : Nat → Hp → Prop) (h0 : Pv 0 H1) (hG : ∀ i H, i ≤ n → Pv i H → G H)
    (hs : ∀ i x H H', i < n → Pv i H → S i H x H' → c.g x (wipe σ c.vs) H' fun σ3 H5 => wipe σ3 c.vs = wipe σ c.vs ∧ c.tt σ3 H5 fun b H6 => if b = true then bodyN te D cs σ3 H6 (Pv (i + 1)) else Pv (i + 1) H6) (hd : ∀ H, Pv n H → N H) :
    ∃ W : Nat → Nat → Hp → Prop, (∃ m, W 0 m H1) ∧ ∀ j k H, W j k H → (J.stop j H ∧ N H) ∨
      (J.go j H ∧ ∃ N1 : Hp → Prop, (∀ H', N1 H' → ∃ k', k' < k ∧ W (j + 1) k' H') ∧ ∀ x H', J.yld j H x H' → c.g x (wipe σ c.vs) H' fun σ3 H5 => wipe σ3 c.vs = wipe σ c.vs ∧ c.tt σ3 H5 fun b H6 => if b = true then bodyN te D cs σ3 H6 N1 else N1 H6) := by
  refine ⟨fun i m H => m = n - i ∧ i ≤ n ∧ Pv i H, ⟨_, rfl, Nat.zero_le _, h0⟩, ?_⟩
  rintro i m H ⟨rfl, le, pv⟩
  rcases Nat.lt_or_ge i n with lt | ge
  · exact .inr ⟨w.goes i H lt (hG i H le pv), Pv (i + 1), fun H' p' => ⟨n - (i + 1), by omega, rfl, lt, p'⟩, fun x H' y => hs i x H H' lt pv (w.yields i H x H' lt (hG i H le pv) y)⟩
  · obtain rfl : i = n := Nat.le_antisymm le ge
    exact .inl ⟨w.stops H (hG _ H le pv), hd H pv⟩
def row2 (ms : List Str) (a b : Str) : List (List Key) := ms.map fun c => [Sum.inr a, Sum.inr b, Sum.inr c]
def row1 (ms : List Str) (a : Str) : List (List Key) := ms.flatMap (row2 ms a)
theorem rows_growN (ms : List Str) : ms.flatMap (row1 ms) = growN ms 3 := by
  have g1 : ∀ s : List Key, grow ms [s] = ms.map fun c => s ++ [Sum.inr c] := fun s => by
    unfold grow
    rw [List.flatMap_cons, List.flatMap_nil, List.append_nil]
  have gm : ∀ (l : List Str) (h : Str → List Key), grow ms (l.map h) = l.flatMap fun c => grow ms [h c] := fun l h => by
    induction l with
    | nil => rfl
    | cons x l ih =>
      rw [List.map_cons, show h x :: l.map h = [h x] ++ l.map h from rfl, grow_append, ih, List.flatMap_cons]
  have gf : ∀ (l : List Str) (h : Str → List (List Key)), grow ms (l.flatMap h) = l.flatMap fun c => grow ms (h c) := fun l h => by
    induction l with
    | nil => rfl
    | cons x l ih => rw [List.flatMap_cons, grow_append, ih, List.flatMap_cons]
  show _ = grow ms (grow ms (grow ms [[]]))
  rw [g1, gm, gf]
  congr 1
  funext a
  rw [g1, gm]
  unfold row1
  congr 1
  funext b
  rw [g1]
  rfl
theorem take_flat {α β : Type} (xs : List α) (h : α → List β) {i : Nat} {x : α} (e : xs[i]? = some x) : (xs.take (i + 1)).flatMap h = (xs.take i).flatMap h ++ h x := by
  rw [List.take_add_one, e, List.flatMap_append]
  show _ ++ ([x] : List α).flatMap h = _
  rw [List.flatMap_cons, List.flatMap_nil, List.append_nil]
/-- the rows that are done stand in the list at D -/
def Done (D : Addr) (H0 : Hp) (L : List (List Key)) (Hx : Hp) : Prop := ∃ ts : List Addr, Hx D = some (.lst (ts.map V.ref)) ∧ Paired (fun t k => t ≠ D ∧ TupAt Hx t k) ts L ∧ Same H0 Hx
section
variable {P : Program} {w : World} {K : PySem.W.Frag} {mg : Str → Option Value} {base : Heap} {f : Addr} {fd : FuncData}
theorem scThreesOf : FnScope ["marks", "first", "second", "third"] ["marks"] (defScope sThreesOf) := ⟨rfl, rfl, rfl, by decide +kernel, rfl, by decide +kernel, by decide +kernel⟩
abbrev clF (K : PySem.W.Frag) : Cl := ⟨iList K (tVar 0), gName 1, tYes, [1, 2, 3]⟩
abbrev clS (K : PySem.W.Frag) : Cl := ⟨iList K (tVar 0), gName 2, tYes, [2, 3]⟩
abbrev clT (K : PySem.W.Frag) : Cl := ⟨iList K (tVar 0), gName 3, tYes, [3]⟩
theorem chain3 {K : PySem.W.Frag} : Chain [clF K, clS K, clT K] :=
  And.intro (fun i h => (show ∀ i ∈ ([2, 3] : List Nat), i ∈ ([1, 2, 3] : List Nat) by decide) i h) (And.intro (fun i h => (show ∀ i ∈ ([3] : List Nat), i ∈ ([2, 3] : List Nat) by decide) i h) (And.intro (fun i h => nomatch (show i ∈ ([] : List Nat) from h)) trivial))
theorem ok_threesof (F : FnP K "threes_of" sThreesOf f fd) : FnOk P w K mg base CX0 1 f fd ["marks"] (spThrees K) := by
  refine F.ok scThreesOf (fun vs H Q E h => ?_) (fun cdv A outer s H vs Q E hr h => ?_)
  · obtain ⟨a, ms, rfl, _⟩ := h
    rfl
  · obtain ⟨a, ms, rfl, hS, few, k⟩ := h
    refine ⟨_, PSs.nox (pss_one (ps_ret (pe_lcN (c := clF K) (cs := [clS K, clT K]) (te := tTup (tCons (tVar 1) (tCons (tVar 2) (tCons (tVar 3) tNil)))) (own := [("first", 1), ("second", 2), ("third", 3)]) rfl scThreesOf.nd rfl (pi_list (pv 0)) (by intro _; rfl) (blkOk_by (own := [("first", 1), ("second", 2), ("third", 3)]) (N := ["marks", "first", "second", "third"]) (sc := defScope sThreesOf) (by decide +kernel)) rfl
      chain3 (fun _ _ _ _ _ => pg_name (i := 1) scThreesOf.nd rfl (Or.inl rfl)) (fun _ _ _ _ _ => pts_nil)
      (fun _ _ _ _ _ => .cons ⟨rfl, pi_list (pv 0), pg_name (i := 2) scThreesOf.nd rfl (Or.inl rfl), pts_nil, by intro _; rfl⟩ (.cons ⟨rfl, pi_list (pv 0), pg_name (i := 3) scThreesOf.nd rfl (Or.inl rfl), pts_nil, by intro _; rfl⟩ .nil))
      (fun _ _ _ _ _ => pe_tup (pa_cons (pv 1) (pa_cons (pv 2) (pa_cons (pv 3) pa_nil))))))), ?_⟩
    have at_ : ∀ {i : Nat} {x : V}, (ms.map V.str)[i]? = some x → ∃ z, ms[i]? = some z ∧ V.str z = x := fun e => by
      rw [List.getElem?_map] at e
      exact Option.map_eq_some_iff.mp e
    have ml : (ms.map V.str).length = ms.length := List.length_map _
    refine ⟨_, rfl, a, rfl, ⟨_, hS⟩, fun D hD => ?_⟩
    have fl : ∀ (l : List Str) (h : Str → List (List Key)) (n : Nat), (∀ z, (h z).length ≤ n) → (l.flatMap h).length ≤ l.length * n := fun l h n hn => by
      induction l with
      | nil => simp
      | cons x l ih =>
        have := hn x
        rw [List.flatMap_cons, List.length_append, List.length_cons, Nat.add_mul]
        omega
    have r2 : ∀ x y, (row2 ms x y).length ≤ 5 := fun x y => by
      unfold row2
      rw [List.length_map]
      exact few
    have r1 : ∀ x, (row1 ms x).length ≤ 25 := fun x => by
      have := fl ms (row2 ms x) 5 (r2 x)
      unfold row1
      omega
    refine nest_it (c := clF K) (walk_list (K := K) (a := a) (xs := ms.map V.str)) (fun i Hx => Done D H ((ms.take i).flatMap (row1 ms)) Hx) ⟨[], upd_same, .nil, same_new hD⟩ (fun i Hx _ ⟨_, _, _, z⟩ => z.seq hS) ?_ ?_
    · rintro i x Hx H' hi hdone ⟨rfl, ex⟩
      obtain ⟨za, ea, rfl⟩ := at_ ex
      refine ⟨rfl, ?_⟩
      obtain ⟨_, _, _, zz⟩ := id hdone
      refine ⟨_, rfl, a, rfl, ⟨_, zz.seq hS⟩, nest_it (c := clS K) (walk_list (K := K) (a := a) (xs := ms.map V.str)) (fun j Hx => Done D H ((ms.take i).flatMap (row1 ms) ++ (ms.take j).flatMap (row2 ms za)) Hx) ?_ (fun j Hx _ ⟨_, _, _, z⟩ => z.seq hS) ?_ ?_⟩
      · show Done D H (_ ++ []) _
        rw [List.append_nil]
        exact hdone
      · rintro j x Hy H' hj hdone2 ⟨rfl, ex2⟩
        obtain ⟨zb, eb, rfl⟩ := at_ ex2
        refine ⟨rfl, ?_⟩
        obtain ⟨_, _, _, zz2⟩ := id hdone2
        refine ⟨_, rfl, a, rfl, ⟨_, zz2.seq hS⟩, nest_it (c := clT K) (walk_list (K := K) (a := a) (xs := ms.map V.str)) (fun l Hx => Done D H ((ms.take i).flatMap (row1 ms) ++ (ms.take j).flatMap (row2 ms za) ++ (ms.take l).map fun c => [Sum.inr za, Sum.inr zb, Sum.inr c]) Hx) ?_ (fun l Hx _ ⟨_, _, _, z⟩ => z.seq hS) ?_ ?_⟩
        · show Done D H (_ ++ []) _
          rw [List.append_nil]
          exact hdone2
        · rintro l x Hz H' hl ⟨ts, q1, q2, q3⟩ ⟨rfl, ex3⟩
          obtain ⟨zc, ec, rfl⟩ := at_ ex3
          refine ⟨rfl, ?_⟩
          refine ⟨_, rfl, _, rfl, _, rfl, (by show 3 ≤ sizeLine; decide), fun t nt => ?_⟩
          have st := same_new (o := .tup [V.str za, V.str zb, V.str zc]) nt
          have tD : t ≠ D := fun q => by
            rw [q, q1] at nt
            cases nt
          have few1 : ts.length ≤ 300 := by
            rw [Paired.length q2, List.length_append, List.length_append, List.length_map]
            have h1 := fl (ms.take i) (row1 ms) 25 r1
            have h2 := fl (ms.take j) (row2 ms za) 5 (r2 za)
            have h3 : (ms.take i).length ≤ 5 := by rw [List.length_take]; omega
            have h4 : (ms.take j).length ≤ 5 := by rw [List.length_take]; omega
            have h5 : (ms.take l).length ≤ 5 := by rw [List.length_take]; omega
            omega
          refine ⟨_, st _ _ q1, ?_, ts ++ [t], by rw [upd_same, List.map_append] <;> rfl, ?_, fun b o e => (upd_ne (ne_of_none e hD)).trans (st _ _ (q3 _ _ e))⟩
          · rw [List.length_map]
            exact len_ok (by omega)
          · have et : (ms.take (l + 1)).map (fun c => ([Sum.inr za, Sum.inr zb, Sum.inr c] : List Key)) = (ms.take l).map (fun c => [Sum.inr za, Sum.inr zb, Sum.inr c]) ++ [[Sum.inr za, Sum.inr zb, Sum.inr zc]] := by
              rw [List.take_add_one, ec, List.map_append] <;> rfl
            rw [et, ← List.append_assoc]
            exact Paired.snoc (Paired.mapP q2 fun t' kk h => ⟨h.1, (upd_ne h.1).trans (st _ _ h.2)⟩) ⟨tD, (upd_ne tD).trans upd_same⟩
        · intro Hz hz
          rw [ml, List.take_length] at hz
          rw [take_flat ms (row2 ms za) eb, ← List.append_assoc]
          exact hz
      · intro Hy hy
        rw [ml, List.take_length] at hy
        rw [take_flat ms (row1 ms) ea]
        exact hy
    · intro Hx hx
      rw [ml, List.take_length, rows_growN] at hx
      obtain ⟨ts, q1, q2, q3⟩ := hx
      exact k D ts Hx hD q1 (Paired.mapP q2 fun t kk h => h.2) q3
end
end Yt

set_option Elab.async false
set_option linter.all false
set_option maxRecDepth 100000
set_option maxHeartbeats 2000000
namespace Yt
open PySem PySem.Spec PyProof.Rows L2
abbrev sTwice : Stmt := top 25
def twiceV (x y z : Str) : V := if x = y ∨ x = z then .str x else if y = z then .str y else .non
def spTwice : Sp := fun vs H Q _ => ∃ (t : Addr) (x y z : Str), vs = [.ref t] ∧ H t = some (.tup [.str x, .str y, .str z]) ∧ Q (twiceV x y z) H
section
variable {P : Program} {w : World} {K : PySem.W.Frag} {mg : Str → Option Value} {base : Heap} {f : Addr} {fd : FuncData}
theorem scTwice : FnScope ["three", "first", "second", "third"] ["three"] (defScope sTwice) := ⟨rfl, rfl, rfl, by decide +kernel, rfl, by decide +kernel, by decide +kernel⟩
theorem dec_str (x y : Str) : (V.bl (decide (V.str x = V.str y))) = V.bl (decide (x = y)) := by
  by_cases e : x = y
  · subst e
    simp
  · have : V.str x ≠ V.str y := fun h => e (V.str.inj h)
    simp [e, this]
theorem ok_twice (F : FnP K "mark_twice_in" sTwice f fd) : FnOk P w K mg base CX0 1 f fd ["three"] spTwice := by
  refine F.ok scTwice (fun vs H Q E h => ?_) (fun cdv A outer s H vs Q E hr h => ?_)
  · obtain ⟨t, x, y, z, rfl, _⟩ := h
    rfl
  · obtain ⟨t, x, y, z, rfl, ht, k⟩ := h
    refine ⟨_, PSs.nox (pss_cons (ps_asg (pv 0) (pg_tup rfl (pgs_cons (pg_name (i := 1) scTwice.nd rfl (Or.inl rfl)) (pgs_cons (pg_name (i := 2) scTwice.nd rfl (Or.inl rfl)) (pgs_cons (pg_name (i := 3) scTwice.nd rfl (Or.inl rfl)) pgs_nil)))))
      (pss_cons (ps_if (PW.pt (pw_or (pt_cmpR op_eq (pv 1) (pv 2) (nomark _)) (pw_or1 (pt_cmpR op_eq (pv 1) (pv 3) (nomark _))))) (pss_one (ps_ret (pv 1))) pss_nil)
      (pss_cons (ps_if (pt_cmpR op_eq (pv 2) (pv 3) (nomark _)) (pss_one (ps_ret (pv 2))) pss_nil)
      (pss_one (ps_ret pe_non))))), ?_⟩
    refine ⟨_, rfl, t, _, rfl, SqT.of ht, rfl, _, _, rfl, _, _, rfl, _, _, rfl, rfl, ?_⟩
    refine ⟨_, rfl, _, rfl, rfl, decide (x = y), dec_str x y, ?_⟩
    by_cases e1 : x = y
    · rw [decide_eq_true e1]
      refine iteT ?_
      have : twiceV x y z = .str x := by simp [twiceV, e1]
      rw [this] at k
      exact ⟨_, rfl, k⟩
    · rw [decide_eq_false e1]
      refine iteF ?_
      refine ⟨_, rfl, _, rfl, rfl, decide (x = z), dec_str x z, ?_⟩
      by_cases e2 : x = z
      · rw [decide_eq_true e2]
        refine iteT ?_
        have : twiceV x y z = .str x := by simp [twiceV, e2]
        rw [this] at k
        exact ⟨_, rfl, k⟩
      · rw [decide_eq_false e2]
        refine iteF ?_
        refine ⟨_, rfl, _, rfl, rfl, decide (y = z), dec_str y z, ?_⟩
        by_cases e3 : y = z
        · rw [decide_eq_true e3]
          refine iteT ?_
          have : twiceV x y z = .str y := by
            unfold twiceV
            rw [if_neg (by simp [e1, e2]), if_pos e3]
          rw [this] at k
          exact ⟨_, rfl, k⟩
        · rw [decide_eq_false e3]
          refine iteF ?_
          have : twiceV x y z = .non := by
            unfold twiceV
            rw [if_neg (by simp [e1, e2]), if_neg e3]
          rw [this] at k
          exact k
/-- a way over marks in the heap, its items in whatever order -/
def WayIn (H : Hp) (d : Addr) (ms : List Str) (m : List (List Key × V)) : Prop := H d = some (.dT m) ∧ (m.map (·.1)).Perm (growN ms 3) ∧ ∀ e ∈ m, ∃ z ∈ ms, e.2 = V.str z
theorem WayIn.to {H H' : Hp} {d : Addr} {ms : List Str} {m : List (List Key × V)} (h : WayIn H d ms m) (s : Same H H') : WayIn H' d ms m := ⟨s _ _ h.1, h.2⟩
abbrev sIsWayOver : Stmt := top 26
theorem scIsWayOver : FnScope ["marks", "value", "threes", "three"] ["marks", "value"] (defScope sIsWayOver) := ⟨rfl, rfl, rfl, by decide +kernel, rfl, by decide +kernel, by decide +kernel⟩
theorem ok_iswayover {fT : Addr} {dT : FuncData} (F : FnP K "is_way_over" sIsWayOver f fd) (T : Nm mg) (T6 : Nm6 mg)
    (GT : FnOk P w K mg base CX0 1 fT dT ["marks"] (spThrees K)) (bT : Binds K dT ["marks"] []) (kT : PySem.W.keepIn K (.ref fT) = true) (gT : mg "threes_of" = some (.ref fT)) :
    FnOk P w K mg base CX0 2 f fd ["marks", "value"] (spYes fun H vs => ∃ a d ms m, vs = [.ref a, .ref d] ∧ H a = some (.lst (ms.map V.str)) ∧ MarksOk ms ∧ WayIn H d ms m) := by
  refine F.ok scIsWayOver (fun vs H Q E h => ?_) (fun cdv A outer s H vs Q E hr h => ?_)
  · obtain ⟨⟨a, d, ms, m, rfl, _⟩, _⟩ := h
    rfl
  · obtain ⟨⟨a, d, ms, m, rfl, ha, hm, hd, hp, hv⟩, k⟩ := h
    have hu := hu_of hr
    refine ⟨_, PSs.nox (pss_cons (ps_set (i := 2) scIsWayOver.nd rfl (Or.inl rfl) (pe_call GT hr rfl gT kT bT .nil pass0 (pa_cons (pv 0) pa_nil)))
      (pss_cons (ps_if (PW.pt (pw_or (pt_not (pt_val (pe_callB call_isi (by rfl) T6.isi (by decide +kernel) (pa_cons (pv 1) (pa_cons (pe_bltn (v := .ty "dict") (u := .type "dict") (by rfl) T6.dict (by decide +kernel) rfl) pa_nil)))))
          (pw_or1 (pt_cmpR op_ne (pe_callB call_len_dT (by rfl) T.len PySem.boot_len (pa_cons (pv 1) pa_nil)) (pe_callB call_len (by rfl) T.len PySem.boot_len (pa_cons (pv 2) pa_nil)) (nomark _))))) (pss_one (ps_ret pe_bl)) pss_nil)
      (pss_one (ps_ret (pe_callB (cr_all rfl) (by rfl) T6.all (by decide +kernel) (pa_cons (pe_lc (own := [("three", 3)]) (g := gName 3) (tt := tYes) (te := tAndV (tDIn (tVar 3) (tVar 1)) (tOp (rIn K false) (tDGet (tVar 1) (tVar 3)) (tVar 0))) rfl scIsWayOver.nd (pi_list (pv 2)) (blkOk_by (own := [("three", 3)]) (N := ["marks", "value", "threes", "three"]) (sc := defScope sIsWayOver) (by decide +kernel))
        (fun _ _ _ _ _ => pg_name (i := 3) scIsWayOver.nd rfl (Or.inl rfl)) (fun _ _ _ _ _ => pts_nil) (fun _ _ _ _ _ => pe_and (pe_cmp (pc_din hu (pv 3) (pv 1))) (pe_one (pe_cmpR op_in_seq (pe_dget hu (pv 1) (pv 3) (fun _ _ => rfl)) (pv 0) (by rfl))))) pa_nil)))))), ?_⟩
    have ml : m.length = (growN ms 3).length := by rw [← List.length_map (f := (·.1)), hp.length_eq]
    refine ⟨_, rfl, a, ms, rfl, SqL.of ha, hm.2.1, fun L ts H1 nL hL hT s1 => ?_⟩
    have hd1 := s1 _ _ hd
    refine ⟨_, rfl, _, _, .type "dict", _, true, rfl, .ty _, .base (.dT hd1), kit_ty (by decide +kernel), _, rfl, ?_⟩
    refine iteF ?_
    refine ⟨_, rfl, d, m, rfl, hd1, _, rfl, _, (ts.map V.ref).length, rfl, Or.inl ⟨_, SqL.of hL, rfl⟩, rfl, false, ?_, ?_⟩
    · have : ((m.length : Nat) : Int) = (((ts.map V.ref).length : Nat) : Int) := by rw [List.length_map, Paired.length hT, ml]
      simp [this]
    refine iteF ?_
    refine ⟨_, rfl, L, rfl, ⟨_, SqL.of hL⟩, fun D hD => ?_⟩
    refine lc_list (K := K) (a := L) (xs := ts.map V.ref) (fun i Hx => Hx D = some (.lst ((List.replicate i true).map V.bl)) ∧ Same H1 Hx) ⟨upd_same, same_new hD⟩ (fun i Hx _ z => SqL.of (z.2 _ _ hL)) ?_ ?_
    · rintro i x Hx hx ⟨q1, q2⟩
      obtain ⟨t, et, rfl⟩ : ∃ t, ts[i]? = some t ∧ V.ref t = x := by
        rw [List.getElem?_map] at hx
        exact Option.map_eq_some_iff.mp hx
      have hi : i < ts.length := (List.getElem?_eq_some_iff.mp et).1
      obtain ⟨kk, ek, ht⟩ := paired_at' hT et
      have ht' : TupAt Hx t kk := q2 _ _ ht
      have hdx := q2 _ _ hd1
      have kin : kk ∈ m.map (·.1) := hp.mem_iff.mpr (List.mem_of_getElem? ek)
      obtain ⟨⟨k2, v⟩, hmem, rfl⟩ := List.mem_map.mp kin
      obtain ⟨z, hz, ev⟩ := hv _ hmem
      obtain ⟨j, ej⟩ := List.mem_iff_getElem?.mp hmem
      have gv : valV m k2 = some v := valV_at (hp.nodup_iff.mpr (growN_nodup hm.2.2.1.nodup 3)) ej
      have dg : DGet Hx d (.ref t) (some v) := by
        have := DGet.t hdx ht'
        rw [gv] at this
        exact this
      have ev : v = V.str z := ev
      subst ev
      refine ⟨rfl, ?_⟩
      refine ⟨_, rfl, _, rfl, d, _, rfl, dg, true, rfl, ?_⟩
      refine iteT ?_
      refine ⟨_, rfl, _, rfl, d, _, rfl, dg, _, rfl, a, ms.map V.str, rfl, .inl (SqL.of (q2 _ _ (s1 _ _ ha))), rfl, flat_strs' ms, ?_⟩
      have e1 : (V.bl (if false = true then !inV (V.str z) (ms.map V.str) else inV (V.str z) (ms.map V.str))) = V.bl true := by
        show V.bl (inV (V.str z) (ms.map V.str)) = _
        rw [inV_str, decide_eq_true hz]
      rw [e1]
      have few : (growN ms 3).length ≤ 125 := by
        rw [growN_len]
        exact Nat.pow_le_pow_left hm.2.1 3
      have tl : ts.length = (growN ms 3).length := Paired.length hT
      refine ⟨_, q1, ?_, ?_, fun b o e => (upd_ne (ne_of_none e hD)).trans (q2 _ _ e)⟩
      · rw [List.length_map, List.length_replicate]
        exact len_ok (by omega)
      · rw [upd_same, List.replicate_succ', List.map_append]
        rfl
    · rintro Hx ⟨q1, q2⟩
      refine ⟨D, List.replicate (ts.map V.ref).length true, rfl, SqL.of q1, ?_⟩
      rw [all_rep]
      exact k _ fun b o e => q2 _ _ (s1 _ _ e)
end
end Yt

set_option Elab.async false
set_option linter.all false
set_option maxRecDepth 100000
set_option maxHeartbeats 2000000
namespace Yt
open PySem PySem.Spec PyProof.Rows L2
abbrev sIsMajOver : Stmt := top 27
/-- what two of a row of three have alike -/
def twK : List Key → V
  | [.inr x, .inr y, .inr z] => twiceV x y z
  | _ => .non
def majAt (m : List (List Key × V)) (k : List Key) : Bool := inV (twK k) [.non, (valV m k).getD .non]
def majB (ms : List Str) (m : List (List Key × V)) : Bool := (growN ms 3).all (majAt m)
theorem grow_mem {ms : List Str} {L : List (List Key)} {k : List Key} (h : k ∈ grow ms L) : ∃ s ∈ L, ∃ c ∈ ms, k = s ++ [Sum.inr c] := by
  obtain ⟨s, hs, h2⟩ := List.mem_flatMap.mp h
  obtain ⟨c, hc, rfl⟩ := List.mem_map.mp h2
  exact ⟨s, hs, c, hc, rfl⟩
theorem grow3_form {ms : List Str} {k : List Key} (h : k ∈ growN ms 3) : ∃ x y z, x ∈ ms ∧ y ∈ ms ∧ z ∈ ms ∧ k = [Sum.inr x, Sum.inr y, Sum.inr z] := by
  obtain ⟨s2, h2, z, hz, rfl⟩ := grow_mem h
  obtain ⟨s1, h1, y, hy, rfl⟩ := grow_mem h2
  obtain ⟨s0, h0, x, hx, rfl⟩ := grow_mem h1
  obtain rfl : s0 = [] := List.mem_singleton.mp h0
  exact ⟨x, y, z, hx, hy, hz, rfl⟩
theorem twice_flat (x y z : Str) : flatV (twiceV x y z) = true := by
  unfold twiceV
  split
  · rfl
  · split <;> rfl
def WayArg (H : Hp) (vs : List V) (ms : List Str) (m : List (List Key × V)) : Prop := ∃ a d, vs = [.ref a, .ref d] ∧ H a = some (.lst (ms.map V.str)) ∧ MarksOk ms ∧ WayIn H d ms m
def spMajB : Sp := fun vs H Q _ => ∃ ms m, WayArg H vs ms m ∧ ∀ H', Same H H' → Q (.bl (majB ms m)) H'
abbrev spWayB : Sp := spYes fun H vs => ∃ a d ms m, vs = [.ref a, .ref d] ∧ H a = some (.lst (ms.map V.str)) ∧ MarksOk ms ∧ WayIn H d ms m
section
variable {P : Program} {w : World} {K : PySem.W.Frag} {mg : Str → Option Value} {base : Heap} {f : Addr} {fd : FuncData}
theorem scIsMajOver : FnScope ["marks", "value", "three"] ["marks", "value"] (defScope sIsMajOver) := ⟨rfl, rfl, rfl, by decide +kernel, rfl, by decide +kernel, by decide +kernel⟩
theorem ok_ismajover {fT fW f2 : Addr} {dT dW d2 : FuncData} (F : FnP K "is_majority_over" sIsMajOver f fd) (T6 : Nm6 mg)
    (GT : FnOk P w K mg base CX0 1 fT dT ["marks"] (spThrees K)) (bT : Binds K dT ["marks"] []) (kT : PySem.W.keepIn K (.ref fT) = true) (gT : mg "threes_of" = some (.ref fT))
    (GW : FnOk P w K mg base CX0 2 fW dW ["marks", "value"] spWayB) (bW : Binds K dW ["marks", "value"] []) (kW : PySem.W.keepIn K (.ref fW) = true) (gW : mg "is_way_over" = some (.ref fW))
    (G2 : FnOk P w K mg base CX0 1 f2 d2 ["three"] spTwice) (b2 : Binds K d2 ["three"] []) (k2 : PySem.W.keepIn K (.ref f2) = true) (g2 : mg "mark_twice_in" = some (.ref f2)) :
    FnOk P w K mg base CX0 3 f fd ["marks", "value"] spMajB := by
  refine F.ok scIsMajOver (fun vs H Q E h => ?_) (fun cdv A outer s H vs Q E hr h => ?_)
  · obtain ⟨ms, m, ⟨a, d, rfl, _⟩, _⟩ := h
    rfl
  · obtain ⟨ms, m, ⟨a, d, rfl, ha, hm, hd⟩, k⟩ := h
    have hu := hu_of hr
    refine ⟨_, PSs.nox (pss_cons (ps_if (pt_not (pt_val (pe_call GW hr rfl gW kW bW .nil pass0 (pa_cons (pv 0) (pa_cons (pv 1) pa_nil))))) (pss_one (ps_ret pe_bl)) pss_nil)
      (pss_one (ps_ret (pe_callB (cr_all rfl) (by rfl) T6.all (by decide +kernel) (pa_cons (pe_lc (own := [("three", 2)]) (g := gName 2) (tt := tYes) (te := tOp (rIn K false) (tCall spTwice [] E0 (tCons (tVar 2) tNil)) (tTup (tCons (tC .non) (tCons (tDGet (tVar 1) (tVar 2)) tNil)))) rfl scIsMajOver.nd (pi_list (pe_call GT (hr.mono (by decide)) rfl gT kT bT .nil pass0 (pa_cons (pv 0) pa_nil))) (blkOk_by (own := [("three", 2)]) (N := ["marks", "value", "three"]) (sc := defScope sIsMajOver) (by decide +kernel))
        (fun _ _ _ _ _ => pg_name (i := 2) scIsMajOver.nd rfl (Or.inl rfl)) (fun _ _ _ _ _ => pts_nil) (fun _ _ _ _ _ => pe_cmpR op_in_seq (pe_call G2 (hr.mono (by decide)) rfl g2 k2 b2 .nil pass0 (pa_cons (pv 2) pa_nil)) (pe_tup (pa_cons pe_non (pa_cons (pe_dget hu (pv 1) (pv 2) (fun _ _ => rfl)) pa_nil))) (by rfl))) pa_nil))))), ?_⟩
    refine ⟨_, rfl, _, rfl, ⟨a, d, ms, m, rfl, ha, hm, hd⟩, fun H1 s1 => ⟨true, rfl, ?_⟩⟩
    refine iteF ?_
    refine ⟨_, rfl, a, ms, rfl, SqL.of (s1 _ _ ha), hm.2.1, fun L ts H2 nL hL hT s2 => ⟨L, rfl, ⟨_, SqL.of hL⟩, fun D hD => ?_⟩⟩
    have few : (growN ms 3).length ≤ 125 := by
      rw [growN_len]
      exact Nat.pow_le_pow_left hm.2.1 3
    refine lc_list (K := K) (a := L) (xs := ts.map V.ref) (fun i Hx => Hx D = some (.lst ((((growN ms 3).take i).map (majAt m)).map V.bl)) ∧ Same H2 Hx) ⟨upd_same, same_new hD⟩ (fun i Hx _ z => SqL.of (z.2 _ _ hL)) ?_ ?_
    · rintro i x Hx hx ⟨q1, q2⟩
      obtain ⟨t, et, rfl⟩ : ∃ t, ts[i]? = some t ∧ V.ref t = x := by
        rw [List.getElem?_map] at hx
        exact Option.map_eq_some_iff.mp hx
      obtain ⟨kk, ek, ht⟩ := paired_at' hT et
      have ht' : TupAt Hx t kk := q2 _ _ ht
      have hdx := q2 _ _ (s2 _ _ (s1 _ _ hd.1))
      have kmem := List.mem_of_getElem? ek
      obtain ⟨⟨k3, v⟩, hmem, e3⟩ := List.mem_map.mp (hd.2.1.mem_iff.mpr kmem)
      have e3 : k3 = kk := e3
      subst e3
      obtain ⟨zv, hz, ev⟩ := hd.2.2 _ hmem
      have ev : v = V.str zv := ev
      subst ev
      obtain ⟨j, ej⟩ := List.mem_iff_getElem?.mp hmem
      have gv : valV m k3 = some (V.str zv) := valV_at (hd.2.1.nodup_iff.mpr (growN_nodup hm.2.2.1.nodup 3)) ej
      obtain ⟨x, y, z, hx', hy', hz', rfl⟩ := grow3_form kmem
      refine ⟨rfl, ?_⟩
      refine ⟨_, rfl, t, x, y, z, rfl, ht', _, rfl, _, rfl, d, V.str zv, rfl, ?_, (by show 2 ≤ sizeLine; decide), fun tp ntp => ?_⟩
      · have := DGet.t hdx ht'
        rw [gv] at this
        exact this
      have st := same_new (o := .tup [V.non, V.str zv]) ntp
      refine ⟨tp, _, rfl, .inr (SqT.of upd_same), twice_flat x y z, rfl, ?_⟩
      have e1 : V.bl (if false = true then !inV (twiceV x y z) [V.non, V.str zv] else inV (twiceV x y z) [V.non, V.str zv]) = V.bl (majAt m [Sum.inr x, Sum.inr y, Sum.inr z]) := by
        unfold majAt
        rw [gv]
        rfl
      rw [e1]
      refine ⟨_, st _ _ q1, ?_, ?_, fun b o e => (upd_ne (ne_of_none e hD)).trans (st _ _ (q2 _ _ e))⟩
      · rw [List.length_map, List.length_map, List.length_take]
        exact len_ok (by omega)
      · rw [upd_same, List.take_add_one, ek, List.map_append, List.map_append]
        rfl
    · rintro Hx ⟨q1, q2⟩
      rw [List.length_map, Paired.length hT, List.take_length] at q1
      refine ⟨D, (growN ms 3).map (majAt m), rfl, SqL.of q1, ?_⟩
      rw [List.all_map]
      exact k Hx fun b o e => q2 _ _ (s2 _ _ (s1 _ _ e))
end
end Yt


set_option Elab.async false
set_option linter.all false
set_option maxRecDepth 100000
set_option maxHeartbeats 2000000
namespace Yt
open PySem PySem.Spec PyProof.Rows L2
/-! ### zip of three tuples, each turn's tuple held by a name -/
theorem wp_alive {M : Model} {A : Around} {E : Value → Shared → Prop} {s : Shared} {a : Addr} {Q : Option Obj → Shared → Prop} (h : Q (s.heap.get? a) s) : wpAny M A (loadIfAlive a) Q E s := fun _ _ _ => h
abbrev Z3 (h : Heap) (z TI TO : Addr) (f0 f1 : Value) : Prop := h.get? z = some { cls := .type "zip", dict := none, data := .fields #[f0, f1, .bool false, .ref TI, .ref TO], slots := #[] }
abbrev Tri (h : Heap) (T : Addr) (a b c : Value) : Prop := h.get? T = some { cls := .type "tuple", data := .seq #[a, b, c] }
def Own (f : Value) : Prop := f = .none ∨ ∃ n : Nat, f = rawInt n
structure ZSt (h : Heap) (z TI TO i1 i2 i3 l1 l2 l3 : Addr) (k : Nat) : Prop where
  zz : ∃ f0 f1, Own f0 ∧ Z3 h z TI TO f0 f1
  ti : Tri h TI (.ref i1) (.ref i2) (.ref i3)
  out : ∃ a b c, Tri h TO a b c
  t1 : h.IsTupleIter i1 l1 k
  t2 : h.IsTupleIter i2 l2 k
  t3 : h.IsTupleIter i3 l3 k
structure ZAp (z TI TO i1 i2 i3 l1 l2 l3 : Addr) : Prop where
  nd : [z, TI, TO, i1, i2, i3].Nodup
  l1 : l1 ∉ [z, TI, TO, i1, i2, i3]
  l2 : l2 ∉ [z, TI, TO, i1, i2, i3]
  l3 : l3 ∉ [z, TI, TO, i1, i2, i3]
section
variable {P : Program} {w : World} {A : Around} {E : Value → Shared → Prop} {s : Shared} {z TI TO i1 i2 i3 l1 l2 l3 : Addr}
theorem tri_put {T : Addr} {a b c x : Value} {k : Nat} {Q : Unit → Shared → Prop} (hT : Tri s.heap T a b c)
    (h : ∀ h', (∃ a' b' c', (#[a, b, c] : Array Value).setIfInBounds k x = #[a', b', c'] ∧ Tri h' T a' b' c') → Heap.SameBut T s.heap h' → Q () { s with heap := h' }) : wpAny (model P w) A (updateSeq T (·.setIfInBounds k x)) Q E s := by
  refine wpAny_updateSeq hT rfl (h _ ?_ (Heap.SameBut.update ..))
  have e := Heap.get?_update_self (Obj.mapSeq (·.setIfInBounds k x)) hT rfl
  match k with
  | 0 => exact ⟨_, _, _, rfl, e⟩
  | 1 => exact ⟨_, _, _, rfl, e⟩
  | 2 => exact ⟨_, _, _, rfl, e⟩
  | k + 3 => exact ⟨a, b, c, by simp [Array.setIfInBounds], e.trans (by simp [Obj.mapSeq, Array.setIfInBounds])⟩
/-- is the tuple of the turn ahead let go? whichever -/
theorem own_free {Q : Bool → Shared → Prop} {f0 f1 : Value} (o : Own f0) (hz : Z3 s.heap z TI TO f0 f1) (h : ∀ (b : Bool) h' g1, Heap.SameBut z s.heap h' → Z3 h' z TI TO f0 g1 → Q b { s with heap := h' }) :
    wpAny (model P w) A (Builtin.SmallTypes.ownedTupleIsFree (.ref z)) Q E s := by
  unfold Builtin.SmallTypes.ownedTupleIsFree
  refine wpAny_bind (wpAny_field hz rfl (x := f0) rfl ?_)
  rcases o with rfl | ⟨n, rfl⟩
  · exact wpAny_pure (h true s.heap f1 (Heap.SameBut.refl _ _) hz)
  · show wpAny _ _ (loadIfAlive _ >>= _) _ _ _
    refine wpAny_bind (wp_alive ?_)
    cases s.heap.get? (n : Int).toNat with
    | none => exact wpAny_pure (h true s.heap f1 (Heap.SameBut.refl _ _) hz)
    | some u =>
      show wpAny _ _ (field (.ref z) 1 >>= _) _ _ _
      refine wpAny_bind (wpAny_field hz rfl (x := f1) rfl ?_)
      split
      · exact wpAny_bind (wpAny_setField_rec hz (by simp) fun h1 z1 s1 => wpAny_pure (h false h1 _ s1 z1))
      · exact wpAny_pure (h false s.heap f1 (Heap.SameBut.refl _ _) hz)
end
section
variable {P : Program} {w : World} {A : Around} {E : Value → Shared → Prop} {s : Shared} {z TI TO i1 i2 i3 l1 l2 l3 : Addr}
theorem _root_.PySem.Heap.IsTupleIter.but {h h' : Heap} {a b l : Addr} {k : Nat} (t : h.IsTupleIter a l k) (sb : Heap.SameBut b h h') (ne : a ≠ b) : h'.IsTupleIter a l k := t.at fun o e => (sb.2 _ ne).trans e
theorem _root_.PySem.Heap.IsTuple.but {h h' : Heap} {a b : Addr} {xs : Array Value} (t : h.IsTuple a xs) (sb : Heap.SameBut b h h') (ne : a ≠ b) : h'.IsTuple a xs := by
  obtain ⟨o, e, r⟩ := t
  exact ⟨o, (sb.2 _ ne).trans e, r⟩
theorem z3_item {k : Nat} {xs ys ws : Array Value} {x y v : Value} {Q : Value → Shared → Prop} (D : ZAp z TI TO i1 i2 i3 l1 l2 l3) (S : ZSt s.heap z TI TO i1 i2 i3 l1 l2 l3 k)
    (T1 : s.heap.IsTuple l1 xs) (T2 : s.heap.IsTuple l2 ys) (T3 : s.heap.IsTuple l3 ws) (hx : xs[k]? = some x) (hy : ys[k]? = some y) (hv : ws[k]? = some v)
    (hQ : ∀ h', ZSt h' z TI TO i1 i2 i3 l1 l2 l3 (k + 1) → Tri h' s.heap.objs.size x y v → h'.objs.size = s.heap.objs.size + 1 → (∀ c o, c ∉ [z, TO, i1, i2, i3] → s.heap.get? c = some o → h'.get? c = some o) → Q (.ref s.heap.objs.size) { s with heap := h' }) :
    wpAny (model P w) A (Builtin.«zip.__next__» ⟨[.ref z], []⟩) (fun fin s' => ∃ v, fin = .done (.ret v) ∧ Q v s') E s := by
  obtain ⟨⟨f0, f1, own, hz⟩, hTI, ⟨a, b, c, hTO⟩, h1, h2, h3⟩ := S
  obtain ⟨nd, n1, n2, n3⟩ := D
  simp only [List.nodup_cons, List.mem_cons, List.not_mem_nil, or_false, not_or, List.nodup_nil, and_true, not_false_eq_true] at nd n1 n2 n3
  obtain ⟨⟨zTI, zTO, z1, z2, z3⟩, ⟨TITO, TI1, TI2, TI3⟩, ⟨TO1, TO2, TO3⟩, ⟨i12, i13⟩, i23⟩ := nd
  show wpAny _ _ (field (.ref z) 2 >>= _) _ _ _
  refine wpAny_bind (wpAny_field hz rfl (x := .bool false) rfl ?_)
  show wpAny _ _ (field (.ref z) 3 >>= _) _ _ _
  refine wpAny_bind (wpAny_field hz rfl (x := .ref TI) rfl (wpAny_bind (wpAny_seqItems hTI rfl ?_)))
  show wpAny _ _ (Builtin.SmallTypes.ownedTupleIsFree (.ref z) >>= _) _ _ _
  refine wpAny_bind (own_free own hz fun fr g0 f2 sb0 hz0 => ?_)
  have p1 := Heap.IsTupleIter.but h1 sb0 (Ne.symm z1)
  have p2 := Heap.IsTupleIter.but h2 sb0 (Ne.symm z2)
  have p3 := Heap.IsTupleIter.but h3 sb0 (Ne.symm z3)
  have q1 := Heap.IsTuple.but T1 sb0 n1.1
  have q2 := Heap.IsTuple.but T2 sb0 n2.1
  have q3 := Heap.IsTuple.but T3 sb0 n3.1
  have hTI0 : Tri g0 TI (.ref i1) (.ref i2) (.ref i3) := (sb0.2 _ (Ne.symm zTI)).trans hTI
  have hTO0 : Tri g0 TO a b c := (sb0.2 _ (Ne.symm zTO)).trans hTO
  cases fr with
  | true =>
    simp only [if_true]
    refine wpAny_bind (wpAny_rule (wpAny_bind (wpAny_field hz0 rfl (x := .ref TO) rfl (wpAny_bind (wpAny_setField_rec hz0 (by simp) fun g1 hz1 sb1 => ?_)))))
    replace hz1 : Z3 g1 z TI TO .ellipsis f2 := hz1
    refine wpAny_bind ?_
    simp only [List.zipIdx_cons, List.zipIdx_nil, List.forIn_cons, List.forIn_nil]
    -- the first
    refine wpAny_bind (wpAny_bind (wpAny_onRaise ?_))
    show wpAny _ _ (Builtin.SmallTypes.nextOf (.ref i1) >>= _) _ _ _
    refine wpAny_bind (RZ.nextOf_tuple_item (p1.but sb1 (Ne.symm z1)) (q1.but sb1 n1.1) hx fun g2 o1 sb2 => wpAny_pure ?_)
    have hTO2 : Tri g2 TO a b c := (sb2.2 _ TO1).trans ((sb1.2 _ (Ne.symm zTO)).trans hTO0)
    refine wpAny_bind (wpAny_seqItems hTO2 rfl (wpAny_bind (tri_put hTO2 fun g3 ⟨a1, b1, c1, e1, hTO3⟩ sb3 => wpAny_bind (wpAny_letGo (wpAny_pure ?_)))))
    cases e1
    -- the second
    refine wpAny_bind (wpAny_bind (wpAny_onRaise ?_))
    show wpAny _ _ (Builtin.SmallTypes.nextOf (.ref i2) >>= _) _ _ _
    refine wpAny_bind (RZ.nextOf_tuple_item ((((p2.but sb1 (Ne.symm z2)).but sb2 (Ne.symm i12)).but sb3 (Ne.symm TO2))) (((q2.but sb1 n2.1).but sb2 n2.2.2.2.1).but sb3 n2.2.2.1) hy fun g4 o2 sb4 => wpAny_pure ?_)
    have hTO4 := (sb4.2 _ TO2).trans hTO3
    refine wpAny_bind (wpAny_seqItems hTO4 rfl (wpAny_bind (tri_put hTO4 fun g5 ⟨a2, b2, c2, e2, hTO5⟩ sb5 => wpAny_bind (wpAny_letGo (wpAny_pure ?_)))))
    cases e2
    -- the third
    refine wpAny_bind (wpAny_bind (wpAny_onRaise ?_))
    show wpAny _ _ (Builtin.SmallTypes.nextOf (.ref i3) >>= _) _ _ _
    refine wpAny_bind (RZ.nextOf_tuple_item (((((p3.but sb1 (Ne.symm z3)).but sb2 (Ne.symm i13)).but sb3 (Ne.symm TO3)).but sb4 (Ne.symm i23)).but sb5 (Ne.symm TO3)) (((((q3.but sb1 n3.1).but sb2 n3.2.2.2.1).but sb3 n3.2.2.1).but sb4 n3.2.2.2.2.1).but sb5 n3.2.2.1) hv fun g6 o3 sb6 => wpAny_pure ?_)
    have hTO6 := (sb6.2 _ TO3).trans hTO5
    refine wpAny_bind (wpAny_seqItems hTO6 rfl (wpAny_bind (tri_put hTO6 fun g7 ⟨a3, b3, c3, e3, hTO7⟩ sb7 => wpAny_bind (wpAny_letGo (wpAny_pure (wpAny_pure ?_))))))
    cases e3
    refine wpAny_bind (wpAny_seqItems hTO7 rfl (wpAny_bind (wpAny_newTuple ?_)))
    have hsz : g7.objs.size = s.heap.objs.size := by rw [sb7.1, sb6.1, sb5.1, sb4.1, sb3.1, sb2.1, sb1.1, sb0.1]
    have all7 : ∀ d o, d ∉ [z, TO, i1, i2, i3] → s.heap.get? d = some o → g7.get? d = some o := fun d o hd e => by
      simp only [List.mem_cons, List.not_mem_nil, or_false, not_or] at hd
      rw [sb7.2 _ hd.2.1, sb6.2 _ hd.2.2.2.2, sb5.2 _ hd.2.1, sb4.2 _ hd.2.2.2.1, sb3.2 _ hd.2.1, sb2.2 _ hd.2.2.1, sb1.2 _ hd.1, sb0.2 _ hd.1]
      exact e
    have hz7 : Z3 g7 z TI TO .ellipsis f2 := by
      show g7.get? z = _
      rw [sb7.2 _ zTO, sb6.2 _ z3, sb5.2 _ zTO, sb4.2 _ z2, sb3.2 _ zTO, sb2.2 _ z1]
      exact hz1
    have hTI7 := all7 TI _ (by simp only [List.mem_cons, List.not_mem_nil, or_false, not_or]; exact ⟨Ne.symm zTI, TITO, TI1, TI2, TI3⟩) hTI
    have t1 : g7.IsTupleIter i1 l1 (k + 1) := ((((o1.but sb3 (Ne.symm TO1)).but sb4 i12).but sb5 (Ne.symm TO1)).but sb6 i13).but sb7 (Ne.symm TO1)
    have t2 : g7.IsTupleIter i2 l2 (k + 1) := ((o2.but sb5 (Ne.symm TO2)).but sb6 i23).but sb7 (Ne.symm TO2)
    have t3 : g7.IsTupleIter i3 l3 (k + 1) := o3.but sb7 (Ne.symm TO3)
    have zlt : z < g7.objs.size := Heap.lt_size hz7
    have hz8 : Z3 (g7.push { cls := .type "tuple", data := .seq #[x, y, v] }) z TI TO .ellipsis f2 := Heap.get?_push_of_some _ hz7
    show wpAny _ _ (Builtin.SmallTypes.ownedTupleHandOut (.ref z) (.ref g7.objs.size) >>= _) _ _ _
    refine wpAny_bind ?_
    unfold Builtin.SmallTypes.ownedTupleHandOut
    refine wpAny_bind (wpAny_setField_rec hz8 (by simp) fun g9 hz9 sb9 => wpAny_setField_rec hz9 (by simp) fun gz hzz sbz => wpAny_pure ⟨_, rfl, ?_⟩)
    have up : ∀ d o, d ≠ z → g7.get? d = some o → gz.get? d = some o := fun d o hd e => by
      rw [sbz.2 _ hd, sb9.2 _ hd]
      exact Heap.get?_push_of_some _ e
    have new : Tri gz g7.objs.size x y v := by
      show gz.get? _ = _
      rw [sbz.2 _ (Nat.ne_of_gt zlt), sb9.2 _ (Nat.ne_of_gt zlt)]
      exact Heap.get?_push_size _ rfl
    have size : gz.objs.size = g7.objs.size + 1 := by rw [sbz.1, sb9.1, Heap.size_push]
    show Q (.ref g7.objs.size) _
    rw [hsz] at new size ⊢
    refine hQ gz ⟨⟨_, _, .inr ⟨_, rfl⟩, hzz⟩, up _ _ (Ne.symm zTI) hTI7, ⟨_, _, _, up _ _ (Ne.symm zTO) hTO7⟩, t1.at fun o e => up _ o (Ne.symm z1) e, t2.at fun o e => up _ o (Ne.symm z2) e, t3.at fun o e => up _ o (Ne.symm z3) e⟩ new size fun d o hd e => up _ o (fun q => hd (by simp [q])) (all7 d o hd e)
  | false =>
    simp only [Bool.false_eq_true, if_false]
    refine wpAny_bind ?_
    rw [← Array.forIn_toList]
    simp only [List.forIn_cons, List.forIn_nil]
    refine wpAny_bind (wpAny_bind (wpAny_holding ?_))
    show wpAny _ _ (Builtin.SmallTypes.nextOf (.ref i1) >>= _) _ _ _
    refine wpAny_bind (RZ.nextOf_tuple_item p1 q1 hx fun g2 o1 sb2 => wpAny_pure (wpAny_pure ?_))
    refine wpAny_bind (wpAny_bind (wpAny_holding ?_))
    show wpAny _ _ (Builtin.SmallTypes.nextOf (.ref i2) >>= _) _ _ _
    refine wpAny_bind (RZ.nextOf_tuple_item (p2.but sb2 (Ne.symm i12)) (q2.but sb2 n2.2.2.2.1) hy fun g4 o2 sb4 => wpAny_pure (wpAny_pure ?_))
    refine wpAny_bind (wpAny_bind (wpAny_holding ?_))
    show wpAny _ _ (Builtin.SmallTypes.nextOf (.ref i3) >>= _) _ _ _
    refine wpAny_bind (RZ.nextOf_tuple_item ((p3.but sb2 (Ne.symm i13)).but sb4 (Ne.symm i23)) ((q3.but sb2 n3.2.2.2.1).but sb4 n3.2.2.2.2.1) hv fun g6 o3 sb6 => wpAny_pure (wpAny_pure (wpAny_pure ?_)))
    have hsz : g6.objs.size = s.heap.objs.size := by rw [sb6.1, sb4.1, sb2.1, sb0.1]
    refine wpAny_bind (wpAny_newTuple (hsz := by show 3 ≤ sizeLine; decide) (wpAny_pure ⟨_, rfl, ?_⟩))
    have all6 : ∀ d o, d ∉ [z, TO, i1, i2, i3] → s.heap.get? d = some o → g6.get? d = some o := fun d o hd e => by
      simp only [List.mem_cons, List.not_mem_nil, or_false, not_or] at hd
      rw [sb6.2 _ hd.2.2.2.2, sb4.2 _ hd.2.2.2.1, sb2.2 _ hd.2.2.1, sb0.2 _ hd.1]
      exact e
    have hz6 : Z3 g6 z TI TO f0 f2 := by
      show g6.get? z = _
      rw [sb6.2 _ z3, sb4.2 _ z2, sb2.2 _ z1]
      exact hz0
    have hTO6 : Tri g6 TO a b c := by
      show g6.get? TO = _
      rw [sb6.2 _ TO3, sb4.2 _ TO2, sb2.2 _ TO1]
      exact hTO0
    have hTI6 := all6 TI _ (by simp only [List.mem_cons, List.not_mem_nil, or_false, not_or]; exact ⟨Ne.symm zTI, TITO, TI1, TI2, TI3⟩) hTI
    have t1 : g6.IsTupleIter i1 l1 (k + 1) := (o1.but sb4 i12).but sb6 i13
    have t2 : g6.IsTupleIter i2 l2 (k + 1) := o2.but sb6 i23
    have up : ∀ d o, g6.get? d = some o → (g6.push { cls := .type "tuple", data := .seq #[x, y, v] }).get? d = some o := fun d o e => Heap.get?_push_of_some _ e
    show Q (.ref g6.objs.size) _
    have new : Tri (g6.push { cls := .type "tuple", data := .seq #[x, y, v] }) g6.objs.size x y v := Heap.get?_push_size _ rfl
    rw [hsz] at new ⊢
    exact hQ _ ⟨⟨_, _, own, up _ _ hz6⟩, up _ _ hTI6, ⟨_, _, _, up _ _ hTO6⟩, t1.at fun o e => up _ o e, t2.at fun o e => up _ o e, o3.at fun o e => up _ o e⟩ new (by rw [Heap.size_push, hsz]) fun d o hd e => up _ o (all6 d o hd e)
/-- the first one has ended -/
theorem z3_end {k : Nat} {xs : Array Value} {Q : Fin → Shared → Prop} (hh : A.handled = none) (D : ZAp z TI TO i1 i2 i3 l1 l2 l3) (S : ZSt s.heap z TI TO i1 i2 i3 l1 l2 l3 k) (T1 : s.heap.IsTuple l1 xs) (hx : xs[k]? = none)
    (hE : ∀ h' e, (∀ c o, c ∉ [z, TO, i1, i2, i3] → s.heap.get? c = some o → h'.get? c = some o) → (∃ o, h'.get? e = some o ∧ o.cls = .type "StopIteration") → E (.ref e) { s with heap := h' }) :
    wpAny (model P w) A (Builtin.«zip.__next__» ⟨[.ref z], []⟩) Q E s := by
  obtain ⟨⟨f0, f1, own, hz⟩, hTI, ⟨a, b, c, hTO⟩, h1, h2, h3⟩ := S
  obtain ⟨nd, n1, n2, n3⟩ := D
  simp only [List.nodup_cons, List.mem_cons, List.not_mem_nil, or_false, not_or, List.nodup_nil, and_true, not_false_eq_true] at nd n1 n2 n3
  obtain ⟨⟨zTI, zTO, z1, z2, z3⟩, ⟨TITO, TI1, TI2, TI3⟩, ⟨TO1, TO2, TO3⟩, ⟨i12, i13⟩, i23⟩ := nd
  show wpAny _ _ (field (.ref z) 2 >>= _) _ _ _
  refine wpAny_bind (wpAny_field hz rfl (x := .bool false) rfl ?_)
  show wpAny _ _ (field (.ref z) 3 >>= _) _ _ _
  refine wpAny_bind (wpAny_field hz rfl (x := .ref TI) rfl (wpAny_bind (wpAny_seqItems hTI rfl ?_)))
  show wpAny _ _ (Builtin.SmallTypes.ownedTupleIsFree (.ref z) >>= _) _ _ _
  refine wpAny_bind (own_free own hz fun fr g0 f2 sb0 hz0 => ?_)
  have p1 := Heap.IsTupleIter.but h1 sb0 (Ne.symm z1)
  have q1 := Heap.IsTuple.but T1 sb0 n1.1
  cases fr with
  | true =>
    simp only [if_true]
    refine wpAny_bind (wpAny_rule (wpAny_bind (wpAny_field hz0 rfl (x := .ref TO) rfl (wpAny_bind (wpAny_setField_rec hz0 (by simp) fun g1 hz1 sb1 => ?_)))))
    replace hz1 : Z3 g1 z TI TO .ellipsis f2 := hz1
    refine wpAny_bind ?_
    simp only [List.zipIdx_cons, List.zipIdx_nil, List.forIn_cons, List.forIn_nil]
    refine wpAny_bind (wpAny_bind (wpAny_onRaise ?_))
    show wpAny _ _ (Builtin.SmallTypes.nextOf (.ref i1) >>= _) _ _ _
    refine wpAny_bind (RZ.nextOf_tuple_end hh (p1.but sb1 (Ne.symm z1)) (q1.but sb1 n1.1) hx fun g2 e sb2 ⟨oe, hoe, hce⟩ => ?_)
    have hz2 : Z3 g2 z TI TO .ellipsis f2 := sb2 _ _ z1 hz1
    have ez : e ≠ z := fun q => by
      subst q
      rw [hz2] at hoe
      cases hoe
      simp at hce
    refine wpAny_setField_rec hz2 (by simp) fun g3 _ sb3 => hE g3 e (fun d o hd q => ?_) ⟨oe, (sb3.2 _ ez).trans hoe, hce⟩
    simp only [List.mem_cons, List.not_mem_nil, or_false, not_or] at hd
    rw [sb3.2 _ hd.1]
    refine sb2 _ _ hd.2.2.1 ?_
    rw [sb1.2 _ hd.1, sb0.2 _ hd.1]
    exact q
  | false =>
    simp only [Bool.false_eq_true, if_false]
    refine wpAny_bind ?_
    rw [← Array.forIn_toList]
    simp only [List.forIn_cons, List.forIn_nil]
    refine wpAny_bind (wpAny_bind (wpAny_holding ?_))
    show wpAny _ _ (Builtin.SmallTypes.nextOf (.ref i1) >>= _) _ _ _
    refine wpAny_bind (RZ.nextOf_tuple_end hh p1 q1 hx fun g2 e sb2 he => hE g2 e (fun d o hd q => ?_) he)
    simp only [List.mem_cons, List.not_mem_nil, or_false, not_or] at hd
    refine sb2 _ _ hd.2.2.1 ?_
    rw [sb0.2 _ hd.1]
    exact q

end
end Yt

set_option Elab.async false
set_option linter.all false
set_option maxRecDepth 100000
set_option maxHeartbeats 2000000
namespace Yt
open PySem PySem.Spec PyProof.Rows L2
section
variable {P : Program} {w : World} {A : Around} {E : Value → Shared → Prop} {s : Shared} {z TI TO i1 i2 i3 l1 l2 l3 : Addr}
theorem next3_item {k : Nat} {xs ys ws : Array Value} {x y v : Value} {Q : Option Value → Shared → Prop} (D : ZAp z TI TO i1 i2 i3 l1 l2 l3) (S : ZSt s.heap z TI TO i1 i2 i3 l1 l2 l3 k)
    (T1 : s.heap.IsTuple l1 xs) (T2 : s.heap.IsTuple l2 ys) (T3 : s.heap.IsTuple l3 ws) (hx : xs[k]? = some x) (hy : ys[k]? = some y) (hv : ws[k]? = some v)
    (hQ : ∀ h', ZSt h' z TI TO i1 i2 i3 l1 l2 l3 (k + 1) → Tri h' s.heap.objs.size x y v → h'.objs.size = s.heap.objs.size + 1 → (∀ c o, c ∉ [z, TO, i1, i2, i3] → s.heap.get? c = some o → h'.get? c = some o) → Q (some (.ref s.heap.objs.size)) { s with heap := h' }) :
    wpAny (model P w) A (pyNext (.ref z)) Q E s := by
  have hT : s.TypeIs (.ref z) "zip" := S.zz.elim fun f0 q => q.elim fun f1 q => ⟨_, q.2, rfl⟩
  unfold pyNext
  exact wpAny_bind (wpAny_attempt (wpAny_callSpecial?_slot (name := Str.ofString "__next__") hT F.slot_zip_next
    (wpAny_call_entry F.slot_zip_next hT F.entry_zip_next (z3_item D S T1 T2 T3 hx hy hv fun h' a1 a2 a3 a4 => wpAny_pure (hQ h' a1 a2 a3 a4)) (F.args_zip_next_1 _))))
theorem next3_end {k : Nat} {xs : Array Value} {Q : Option Value → Shared → Prop} (hh : A.handled = none) (D : ZAp z TI TO i1 i2 i3 l1 l2 l3) (S : ZSt s.heap z TI TO i1 i2 i3 l1 l2 l3 k) (T1 : s.heap.IsTuple l1 xs) (hx : xs[k]? = none)
    (hQ : ∀ h', (∀ c o, c ∉ [z, TO, i1, i2, i3] → s.heap.get? c = some o → h'.get? c = some o) → Q none { s with heap := h' }) : wpAny (model P w) A (pyNext (.ref z)) Q E s := by
  have hT : s.TypeIs (.ref z) "zip" := S.zz.elim fun f0 q => q.elim fun f1 q => ⟨_, q.2, rfl⟩
  unfold pyNext
  refine wpAny_bind (wpAny_attempt (wpAny_callSpecial?_slot (name := Str.ofString "__next__") hT F.slot_zip_next
    (wpAny_call_entry F.slot_zip_next hT F.entry_zip_next (z3_end hh D S T1 hx fun h' e hk ⟨o, ho, hc⟩ => ?_) (F.args_zip_next_1 _))))
  exact wpAny_bind (wpAny_isInstance (T := "StopIteration") (b := true) ⟨o, ho, hc⟩ isSubtype_stop (wpAny_pure (hQ _ hk)))
theorem iter3 {k : Nat} {Q : Value → Shared → Prop} (S : ZSt s.heap z TI TO i1 i2 i3 l1 l2 l3 k) (h : Q (.ref z) s) : wpAny (model P w) A (pyIter (.ref z)) Q E s := by
  have hT : s.TypeIs (.ref z) "zip" := S.zz.elim fun f0 q => q.elim fun f1 q => ⟨_, q.2, rfl⟩
  refine wpAny_pyIter_slot hT F.slot_zip_iter (wpAny_call_entry F.slot_zip_iter hT F.entry_zip_iter ?_ (F.args_zip_iter_1 _))
  show wpAny _ _ (ret (.ref z)) _ _ s
  exact wpAny_pure ⟨_, rfl, "zip", _, hT, F.slot_zip_next.lookup, h⟩
end
theorem typeCall_zip3 (a b c : Value) : checkTypeCall "zip" ⟨[a, b, c], []⟩ = pure () := by kernel_rfl
theorem newCall_zip3 (a b c : Value) : checkBuiltinCall "zip.__new__" ⟨[.type "zip", a, b, c], []⟩ = pure () := by kernel_rfl
theorem args_init4 (a b c d : Value) : argsOk "object.__init__" ⟨[a, b, c, d], []⟩ := by
  unfold argsOk; rw [signature?_of (id := "object.__init__") (n := ['_', '_', 't', 'i', 'n', 'i', '_', '_']) (o := ['t', 'c', 'e', 'j', 'b', 'o']) (by kernel_rfl) F.owner_object]; kernel_rfl
abbrev titer (h : Heap) (l : Addr) : Heap := h.push { cls := .type "tuple_iterator", data := .fields #[.ref l, .int 0 0] }
abbrev zh3 (h : Heap) (l1 l2 l3 : Addr) : Heap := titer (titer (titer h l1) l2) l3
abbrev zh4 (h : Heap) (l1 l2 l3 : Addr) : Heap := (zh3 h l1 l2 l3).push { cls := .type "tuple", data := .seq #[.ref h.objs.size, .ref (titer h l1).objs.size, .ref (titer (titer h l1) l2).objs.size] }
abbrev zh5 (h : Heap) (l1 l2 l3 : Addr) : Heap := (zh4 h l1 l2 l3).push { cls := .type "tuple", data := .seq #[.none, .none, .none] }
abbrev zh6 (h : Heap) (l1 l2 l3 : Addr) : Heap := (zh5 h l1 l2 l3).push { cls := .type "zip", data := .fields #[.none, .bool false, .bool false, .ref (zh3 h l1 l2 l3).objs.size, .ref (zh4 h l1 l2 l3).objs.size] }
theorem meets_zip3 (l1 l2 l3 : Addr) (xs ys ws : Array Value) :
    Meets (Builtin.«zip.__new__» ⟨[.type "zip", .ref l1, .ref l2, .ref l3], []⟩) (fun _ R s => s.heap.IsTuple l1 xs ∧ s.heap.IsTuple l2 ys ∧ s.heap.IsTuple l3 ws ∧ R (.ok (.ret (.ref (zh5 s.heap l1 l2 l3).objs.size))) { s with heap := zh6 s.heap l1 l2 l3 }) :=
  .of_wp fun prog w A R s h => by
    obtain ⟨hp, g, d, tk, os⟩ := s; obtain ⟨hl1, hl2, hl3, h⟩ := h
    have hsub := sub_zip
    have hL1 : Heap.IsTuple (Shared.heap ⟨hp, g, d, tk, os⟩) l1 xs := hl1
    have hL2 : Heap.IsTuple (Shared.heap ⟨titer hp l1, g, d, tk, os⟩) l2 ys := Heap.IsTuple.push hl2 _
    have hL3 : Heap.IsTuple (Shared.heap ⟨titer (titer hp l1) l2, g, d, tk, os⟩) l3 ws := Heap.IsTuple.push (Heap.IsTuple.push hl3 _) _
    wp_walk using wpAny_pyIter_tuple hL1, wpAny_pyIter_tuple hL2, wpAny_pyIter_tuple hL3
    exact ⟨_, rfl, h⟩
section
variable {P : Program} {w : World} {A : Around} {E : Value → Shared → Prop} {s : Shared}
theorem call_zip3 {l1 l2 l3 : Addr} {xs ys ws : Array Value} {Q : Value → Shared → Prop} (T1 : s.heap.IsTuple l1 xs) (T2 : s.heap.IsTuple l2 ys) (T3 : s.heap.IsTuple l3 ws)
    (h : ∀ h', ZSt h' (s.heap.objs.size + 5) (s.heap.objs.size + 3) (s.heap.objs.size + 4) s.heap.objs.size (s.heap.objs.size + 1) (s.heap.objs.size + 2) l1 l2 l3 0 → (∀ c o, s.heap.get? c = some o → h'.get? c = some o) → Q (.ref (s.heap.objs.size + 5)) { s with heap := h' }) :
    wpAny (model P w) A (call (.type "zip") [.ref l1, .ref l2, .ref l3]) Q E s := by
  refine callType_new F.called_zip (by decide) (typeCall_zip3 _ _ _) (newCall_zip3 _ _ _) (fun obj => args_init4 obj _ _ _) F.entry_zip_new (meets_zip3 l1 l2 l3 xs ys ws) ⟨T1, T2, T3, ?_⟩
  have y1 : (titer s.heap l1).objs.size = s.heap.objs.size + 1 := Heap.size_push ..
  have y2 : (titer (titer s.heap l1) l2).objs.size = s.heap.objs.size + 2 := by rw [Heap.size_push, y1]
  have y3 : (zh3 s.heap l1 l2 l3).objs.size = s.heap.objs.size + 3 := by rw [Heap.size_push, y2]
  have y4 : (zh4 s.heap l1 l2 l3).objs.size = s.heap.objs.size + 4 := by rw [Heap.size_push, y3]
  have y5 : (zh5 s.heap l1 l2 l3).objs.size = s.heap.objs.size + 5 := by rw [Heap.size_push, y4]
  have up5 : ∀ {c o}, (zh5 s.heap l1 l2 l3).get? c = some o → (zh6 s.heap l1 l2 l3).get? c = some o := fun e => Heap.get?_push_of_some _ e
  have up4 : ∀ {c o}, (zh4 s.heap l1 l2 l3).get? c = some o → (zh6 s.heap l1 l2 l3).get? c = some o := fun e => up5 (Heap.get?_push_of_some _ e)
  have up3 : ∀ {c o}, (zh3 s.heap l1 l2 l3).get? c = some o → (zh6 s.heap l1 l2 l3).get? c = some o := fun e => up4 (Heap.get?_push_of_some _ e)
  have up2 : ∀ {c o}, (titer (titer s.heap l1) l2).get? c = some o → (zh6 s.heap l1 l2 l3).get? c = some o := fun e => up3 (Heap.get?_push_of_some _ e)
  have up1 : ∀ {c o}, (titer s.heap l1).get? c = some o → (zh6 s.heap l1 l2 l3).get? c = some o := fun e => up2 (Heap.get?_push_of_some _ e)
  have g1 : (zh6 s.heap l1 l2 l3).get? s.heap.objs.size = some _ := up1 (Heap.get?_push_size _ rfl)
  have g2 : (zh6 s.heap l1 l2 l3).get? (titer s.heap l1).objs.size = some _ := up2 (Heap.get?_push_size _ rfl)
  have g3 : (zh6 s.heap l1 l2 l3).get? (titer (titer s.heap l1) l2).objs.size = some _ := up3 (Heap.get?_push_size _ rfl)
  have g4 : (zh6 s.heap l1 l2 l3).get? (zh3 s.heap l1 l2 l3).objs.size = some _ := up4 (Heap.get?_push_size _ rfl)
  have g5 : (zh6 s.heap l1 l2 l3).get? (zh4 s.heap l1 l2 l3).objs.size = some _ := up5 (Heap.get?_push_size _ rfl)
  have g6 : (zh6 s.heap l1 l2 l3).get? (zh5 s.heap l1 l2 l3).objs.size = some _ := Heap.get?_push_size _ rfl
  show _ ∧ _
  rw [y1] at g2
  rw [y2] at g3
  rw [y1, y2, y3] at g4
  rw [y4] at g5
  rw [y3, y4, y5] at g6
  rw [y5]
  exact ⟨⟨_, g6, rfl⟩, h _ ⟨⟨_, _, .inl rfl, g6⟩, g4, ⟨_, _, _, g5⟩, ⟨_, g1, rfl, rfl⟩, ⟨_, g2, rfl, rfl⟩, ⟨_, g3, rfl, rfl⟩⟩ fun c o x => up1 (Heap.get?_push_of_some _ x)⟩
end
theorem zap (n l1 l2 l3 : Nat) (h1 : l1 < n) (h2 : l2 < n) (h3 : l3 < n) : ZAp (n + 5) (n + 3) (n + 4) n (n + 1) (n + 2) l1 l2 l3 := by
  have out : ∀ l : Nat, l < n → l ∉ ([n + 5, n + 3, n + 4, n, n + 1, n + 2] : List Nat) := fun l hl q => by
    simp only [List.mem_cons, List.not_mem_nil, or_false] at q
    omega
  exact ⟨(show ([n + 5, n + 3, n + 4, n, n + 1, n + 2] : List Nat).Nodup by simp), out l1 h1, out l2 h2, out l3 h3⟩
theorem zge (n d : Nat) (h : d ∈ ([n + 5, n + 3, n + 4, n, n + 1, n + 2] : List Nat)) : n ≤ d := by
  simp only [List.mem_cons, List.not_mem_nil, or_false] at h
  omega
/-- the tuples at a, b, c as they stand at each turn, the items in new rows of three -/
def Itz3 (K : PySem.W.Frag) (a b c : Addr) : It :=
  ⟨fun i H => ∃ (xs ys ws : List V) (x y v : V), SqT K H a xs ∧ SqT K H b ys ∧ SqT K H c ws ∧ xs[i]? = some x ∧ ys[i]? = some y ∧ ws[i]? = some v,
    fun i H u H' => ∃ T x y v, u = .ref T ∧ H T = none ∧ H' = upd H T (.tup [x, y, v]) ∧ (∀ xs, SqT K H a xs → xs[i]? = some x) ∧ (∀ ys, SqT K H b ys → ys[i]? = some y) ∧ ∀ ws, SqT K H c ws → ws[i]? = some v,
    fun i H => ∃ xs : List V, SqT K H a xs ∧ xs.length ≤ i⟩
theorem turn_zip3 {P : Program} {w : World} {K : PySem.W.Frag} {x : Str} {p : Pos} {a b c z TI TO i1 i2 i3 : Addr} (D : ZAp z TI TO i1 i2 i3 a b c) : Turn P w K (.Name x p) (Itz3 K a b c) [z, TI, TO, i1, i2, i3] z (fun i h => ZSt h z TI TO i1 i2 i3 a b c i) where
  mem := by simp
  obj := fun i h st d hd => by
    obtain ⟨⟨f0, f1, _, hz⟩, hTI, ⟨_, _, _, hTO⟩, ⟨o1, e1, _, d1⟩, ⟨o2, e2, _, d2⟩, ⟨o3, e3, _, d3⟩⟩ := st
    simp only [List.mem_cons, List.not_mem_nil, or_false] at hd
    rcases hd with q | q | q | q | q | q
    · rw [q]; exact ⟨_, hz, fun v q => nomatch q⟩
    · rw [q]; exact ⟨_, hTI, fun v q => nomatch q⟩
    · rw [q]; exact ⟨_, hTO, fun v q => nomatch q⟩
    · rw [q]; exact ⟨o1, e1, fun v q => by rw [d1] at q; cases q⟩
    · rw [q]; exact ⟨o2, e2, fun v q => by rw [d2] at q; cases q⟩
    · rw [q]; exact ⟨o3, e3, fun v q => by rw [d3] at q; cases q⟩
  keep := fun i h h' st k => by
    obtain ⟨⟨f0, f1, own, hz⟩, hTI, ⟨_, _, _, hTO⟩, h1, h2, h3⟩ := st
    exact ⟨⟨f0, f1, own, k z (by simp) _ hz⟩, k TI (by simp) _ hTI, ⟨_, _, _, k TO (by simp) _ hTO⟩, h1.at fun o q => k i1 (by simp) o q, h2.at fun o q => k i2 (by simp) o q, h3.at fun o q => k i3 (by simp) o q⟩
  item := by
    rintro X rfl rfl rfl hc i pins s σ H E I hf st ⟨xs, ys, ws, x, y, v, hqx, hqy, hqv, hx, hy, hv⟩
    obtain ⟨it1, rv1, p1, _⟩ := I.tuple hqx
    obtain ⟨it2, rv2, p2, _⟩ := I.tuple hqy
    obtain ⟨it3, rv3, p3, _⟩ := I.tuple hqv
    obtain ⟨u1, hu1, ru1⟩ := rv1.get hx
    obtain ⟨u2, hu2, ru2⟩ := rv2.get hy
    obtain ⟨u3, hu3, ru3⟩ := rv3.get hv
    have live : ∀ d ∈ [z, TI, TO, i1, i2, i3], d < s.heap.objs.size := fun d hd => by
      obtain ⟨⟨f0, f1, _, hz⟩, hTI, ⟨_, _, _, hTO⟩, ⟨o1, e1, _⟩, ⟨o2, e2, _⟩, ⟨o3, e3, _⟩⟩ := st
      simp only [List.mem_cons, List.not_mem_nil, or_false] at hd
      rcases hd with q | q | q | q | q | q
      · rw [q]; exact Heap.lt_size hz
      · rw [q]; exact Heap.lt_size hTI
      · rw [q]; exact Heap.lt_size hTO
      · rw [q]; exact Heap.lt_size e1
      · rw [q]; exact Heap.lt_size e2
      · rw [q]; exact Heap.lt_size e3
    refine next3_item D st p1 p2 p3 (x := u1) (y := u2) (v := u3) (by simpa using hu1) (by simpa using hu2) (by simpa using hu3) fun h' st' hT hsz hk => ?_
    have new : ObjOk X.prog X.w (upd H s.heap.objs.size (.tup [x, y, v])) h' s.heap.objs.size (.tup [x, y, v]) :=
      ⟨by show 3 ≤ sizeLine; decide, [u1, u2, u3], .cons ru1 (.cons ru2 (.cons ru3 .nil)), ⟨_, hT, rfl, _, rfl⟩⟩
    have I1 : Inv X pins σ (upd H s.heap.objs.size (.tup [x, y, v])) { s with heap := h' } :=
      I.turnedNew (t' := s.toks) (ch := [z, TI, TO, i1, i2, i3]) (fun d o hb q => hk d o (fun m => hb (by simp only [List.mem_cons, List.not_mem_nil, or_false] at m ⊢; rcases m with m | m | m | m | m <;> simp [m])) q) hf (Nat.le_refl _) new
    refine ⟨_, rfl, wpAny_pure ⟨.ref s.heap.objs.size, _, I1, rfl, ⟨_, x, y, v, rfl, I.hok.fresh (Nat.le_refl _), rfl, fun l hl => by rw [I.tuple_inj hl hqx]; exact hx, fun l hl => by rw [I.tuple_inj hl hqy]; exact hy, fun l hl => by rw [I.tuple_inj hl hqv]; exact hv⟩, st', fun d hd => ?_⟩⟩
    rw [upd_ne (Nat.ne_of_lt (live d hd))]
    exact (hf d hd).1
  done := by
    rintro X rfl rfl rfl hc i pins s σ H E I hf st ⟨xs, hqx, hend⟩
    obtain ⟨it1, rv1, p1, _⟩ := I.tuple hqx
    have e1 := rv1.length
    exact next3_end (I.ok.hd hc) D st p1 (by simp; omega) fun h' hk => ⟨rfl, I.turnedL (t' := s.toks) (ch := [z, TI, TO, i1, i2, i3]) (fun d o hb q => hk d o (fun m => hb (by simp only [List.mem_cons, List.not_mem_nil, or_false] at m ⊢; rcases m with m | m | m | m | m <;> simp [m])) q) hf⟩
  self := fun A i s Q E st h => iter3 st h
def iZip3 (K : PySem.W.Frag) (ta : TA) : TI := fun σ H R => ta σ H fun vs H1 => ∃ a b c xs ys ws, vs = [.ref a, .ref b, .ref c] ∧ SqT K H1 a xs ∧ SqT K H1 b ys ∧ SqT K H1 c ws ∧ R (Itz3 K a b c) H1
theorem pi_zip3 {X : Cx} {e e2 e3 : Expr} {ta : TA} {p pos tpos : Pos} {x : Str} (hg : Gl X "zip") (hm : X.mg "zip" = none) (ha : PA X [e, e2, e3] ta)
    (hs : starEach [e, e2, e3] X.env = (false, eval e X.env) :: starEach [e2, e3] X.env := by rfl) (hpl : (backTo pos (starEach [e2, e3] X.env)).any (·.1) = false := by rfl) :
    PI X (.Name x tpos) (.Call (.Name "zip" p) [e, e2, e3] [] pos) (iZip3 X.K ta) := by
  refine ⟨fun pins s σ H R I h => ?_⟩
  refine Call_ (ld_blt I hg hm PyProof.Rows.boot_zip (PyProof.Rows.callWith_type1 (thn (ha.run pos pins s σ H _ I h) fun us s1 ⟨vs, H1, I1, r1, a, b, c, xs, ys, ws, ex, h1, h2, h3, q⟩ => ?_) hs hpl))
  subst ex
  obtain ⟨rfl⟩ : us = [.ref a, .ref b, .ref c] := by
    cases r1 with
    | cons r rr =>
      cases rr with
      | cons r' rr =>
        cases rr with
        | cons r'' rr =>
          cases rr
          cases r
          cases r'
          cases r''
          rfl
  obtain ⟨it1, rv1, p1, _⟩ := I1.tuple h1
  obtain ⟨it2, rv2, p2, _⟩ := I1.tuple h2
  obtain ⟨it3, rv3, p3, _⟩ := I1.tuple h3
  have lt : ∀ {d : Addr} {its : Array Value}, s1.heap.IsTuple d its → d < s1.heap.objs.size := fun t => t.elim fun o e => Heap.lt_size e.1
  refine call_zip3 p1 p2 p3 fun h' st hk => iter3 st ?_
  have I2 : Inv X pins σ H1 { s1 with heap := h' } := I1.kept (t' := s1.toks) hk
  refine ⟨s1.heap.objs.size + 5, [s1.heap.objs.size + 5, s1.heap.objs.size + 3, s1.heap.objs.size + 4, s1.heap.objs.size, s1.heap.objs.size + 1, s1.heap.objs.size + 2], _, _, H1, rfl, I2, turn_zip3 (zap s1.heap.objs.size a b c (lt p1) (lt p2) (lt p3)), st, fun d hd => ?_, q⟩
  have hle : s1.heap.objs.size ≤ d := zge _ _ hd
  exact I1.fpOk hle (I1.hok.fresh hle)
theorem walk_zip3 {K : PySem.W.Frag} {a b c : Addr} {xs ys ws : List V} {n : Nat} (h1 : xs.length = n) (h2 : ys.length = n) (h3 : ws.length = n) : Walk (Itz3 K a b c) n (fun H => SqT K H a xs ∧ SqT K H b ys ∧ SqT K H c ws)
    (fun i H u H' => ∃ T x y v, u = .ref T ∧ H T = none ∧ H' = upd H T (.tup [x, y, v]) ∧ xs[i]? = some x ∧ ys[i]? = some y ∧ ws[i]? = some v) := by
  subst h1
  refine ⟨fun i H hi q => ⟨xs, ys, ws, xs[i], ys[i]'(by omega), ws[i]'(by omega), q.1, q.2.1, q.2.2, by simp [hi], by simp, by simp⟩, fun H q => ⟨xs, q.1, Nat.le_refl _⟩, fun i H u H' hi q y => ?_⟩
  obtain ⟨T, x, y, v, e1, e2, e3, f1, f2, f3⟩ := y
  exact ⟨T, x, y, v, e1, e2, e3, f1 xs q.1, f2 ys q.2.1, f3 ws q.2.2⟩
end Yt

set_option Elab.async false
set_option linter.all false
set_option maxRecDepth 100000
set_option maxHeartbeats 2000000
namespace Yt
open PySem PySem.Spec PyProof.Rows L2
theorem none_back {H H' : Hp} {a : Addr} (s : Same H H') (n : H' a = none) : H a = none := by
  cases z : H a with
  | none => rfl
  | some o =>
    rw [s _ _ z] at n
    cases n
abbrev sLGiven : Stmt := top 52
/-- what a way gives of three rows -/
def gvn (g : Str → Str → Str → Str) : List Str → List Str → List Str → List Str
  | x :: a, y :: b, z :: c => g x y z :: gvn g a b c
  | _, _, _ => []
theorem gvn_len {g : Str → Str → Str → Str} : ∀ {n : Nat} {a b c : List Str}, a.length = n → b.length = n → c.length = n → (gvn g a b c).length = n
  | 0, [], [], [], _, _, _ => rfl
  | n + 1, x :: a, y :: b, z :: c, h1, h2, h3 => by
    rw [gvn, List.length_cons, gvn_len (n := n) (by simpa using h1) (by simpa using h2) (by simpa using h3)]
theorem gvn_at {g : Str → Str → Str → Str} : ∀ {a b c : List Str} {i : Nat} {x y z : Str}, a[i]? = some x → b[i]? = some y → c[i]? = some z → (gvn g a b c)[i]? = some (g x y z)
  | u :: a, v :: b, w :: c, 0, x, y, z, h1, h2, h3 => by
    cases h1
    cases h2
    cases h3
    rfl
  | u :: a, v :: b, w :: c, i + 1, x, y, z, h1, h2, h3 => by
    rw [gvn, List.getElem?_cons_succ]
    exact gvn_at (by simpa using h1) (by simpa using h2) (by simpa using h3)
  | [], _, _, _, _, _, _, h1, _, _ => by simp at h1
  | _ :: _, [], _, _, _, _, _, _, h2, _ => by simp at h2
  | _ :: _, _ :: _, [], _, _, _, _, _, _, h3 => by simp at h3
theorem gvn_take {g : Str → Str → Str → Str} : ∀ {a b c : List Str} {i : Nat} {x y z : Str}, a[i]? = some x → b[i]? = some y → c[i]? = some z → gvn g (a.take (i + 1)) (b.take (i + 1)) (c.take (i + 1)) = gvn g (a.take i) (b.take i) (c.take i) ++ [g x y z]
  | u :: a, v :: b, w :: c, 0, x, y, z, h1, h2, h3 => by
    cases h1
    cases h2
    cases h3
    simp [gvn]
  | u :: a, v :: b, w :: c, i + 1, x, y, z, h1, h2, h3 => by
    show g u v w :: gvn g (a.take (i + 1)) (b.take (i + 1)) (c.take (i + 1)) = g u v w :: (gvn g (a.take i) (b.take i) (c.take i)) ++ [g x y z]
    rw [gvn_take (x := x) (y := y) (z := z) (by simpa using h1) (by simpa using h2) (by simpa using h3)]
    rfl
  | [], _, _, _, _, _, _, h1, _, _ => by simp at h1
  | _ :: _, [], _, _, _, _, _, _, h2, _ => by simp at h2
  | _ :: _, _ :: _, [], _, _, _, _, _, _, h3 => by simp at h3
/-- a majority -/
structure WayG (ms : List Str) (g : Str → Str → Str → Str) : Prop where
  mem : ∀ x ∈ ms, ∀ y ∈ ms, ∀ z ∈ ms, g x y z ∈ ms
  xxy : ∀ x ∈ ms, ∀ y ∈ ms, g x x y = x
  xyx : ∀ x ∈ ms, ∀ y ∈ ms, g x y x = x
  yxx : ∀ x ∈ ms, ∀ y ∈ ms, g y x x = x
theorem gvn_over {ms : List Str} {g : Str → Str → Str → Str} (hg : ∀ x ∈ ms, ∀ y ∈ ms, ∀ z ∈ ms, g x y z ∈ ms) : ∀ {a b c : List Str}, (∀ z ∈ a, z ∈ ms) → (∀ z ∈ b, z ∈ ms) → (∀ z ∈ c, z ∈ ms) → ∀ z ∈ gvn g a b c, z ∈ ms
  | x :: a, y :: b, z :: c, h1, h2, h3 => fun u hu => by
    rcases List.mem_cons.mp hu with rfl | hu
    · exact hg x (h1 x (List.mem_cons_self ..)) y (h2 y (List.mem_cons_self ..)) z (h3 z (List.mem_cons_self ..))
    · exact gvn_over hg (fun z hz => h1 z (List.mem_cons_of_mem _ hz)) (fun z hz => h2 z (List.mem_cons_of_mem _ hz)) (fun z hz => h3 z (List.mem_cons_of_mem _ hz)) u hu
  | [], _, _, _, _, _ => fun u hu => by simp [gvn] at hu
  | _ :: _, [], _, _, _, _ => fun u hu => by simp [gvn] at hu
  | _ :: _, _ :: _, [], _, _, _ => fun u hu => by simp [gvn] at hu
def WayAt (H : Hp) (d : Addr) (ms : List Str) (g : Str → Str → Str → Str) : Prop := ∃ m : List (List Key × V), H d = some (.dT m) ∧ ∀ x ∈ ms, ∀ y ∈ ms, ∀ z ∈ ms, valV m [Sum.inr x, Sum.inr y, Sum.inr z] = some (.str (g x y z))
theorem WayAt.to {H H' : Hp} {d : Addr} {ms : List Str} {g : Str → Str → Str → Str} (h : WayAt H d ms g) (s : Same H H') : WayAt H' d ms g := by
  obtain ⟨m, h1, h2⟩ := h
  exact ⟨m, s _ _ h1, h2⟩
section
variable {P : Program} {w : World} {K : PySem.W.Frag} {mg : Str → Option Value} {base : Heap} {f : Addr} {fd : FuncData}
theorem scLGiven : FnScope ["_law_way", "_law_rows", "_law_some"] ["_law_way", "_law_rows"] (defScope sLGiven) := ⟨rfl, rfl, rfl, by decide +kernel, rfl, by decide +kernel, by decide +kernel⟩
def spLGiven : Sp := fun vs H Q _ => ∃ (d t a b c : Addr) (ms : List Str) (g : Str → Str → Str → Str) (n : Nat) (xs ys zs : List Str), vs = [.ref d, .ref t] ∧ WayAt H d ms g ∧ H t = some (.tup [.ref a, .ref b, .ref c]) ∧ H a = some (.tup (xs.map V.str)) ∧ H b = some (.tup (ys.map V.str)) ∧ H c = some (.tup (zs.map V.str)) ∧ xs.length = n ∧ ys.length = n ∧ zs.length = n ∧ n ≤ 4 ∧
  (∀ z ∈ xs, z ∈ ms) ∧ (∀ z ∈ ys, z ∈ ms) ∧ (∀ z ∈ zs, z ∈ ms) ∧ ∀ (T : Addr) (H' : Hp), H T = none → H' T = some (.tup ((gvn g xs ys zs).map V.str)) → Same H H' → Q (.ref T) H'
theorem ok_lgiven (F : FnP K "_law_given" sLGiven f fd) (T6 : Nm6 mg) : FnOk P w K mg base CX0 1 f fd ["_law_way", "_law_rows"] spLGiven := by
  refine F.ok scLGiven (fun vs H Q E h => ?_) (fun cdv A outer s H vs Q E hr h => ?_)
  · obtain ⟨d, t, a, b, c, ms, g, n, xs, ys, zs, rfl, _⟩ := h
    rfl
  · obtain ⟨d, t, a, b, c, ms, g, n, xs, ys, zs, rfl, ⟨m, hd, hv⟩, ht, ha, hb, hc, e1, e2, e3, n4, o1, o2, o3, k⟩ := h
    have hu := hu_of hr
    refine ⟨_, PSs.nox (pss_one (ps_ret (pe_callTy call_tuple_of (by rfl) T6.tuple (by decide +kernel) (pa_cons (pe_lc (own := [("_law_some", 2)]) (g := gName 2) (tt := tYes) (te := tDGet (tVar 0) (tVar 2)) rfl scLGiven.nd (pi_zip3 (by rfl) T6.zip (pa_cons (pe_ix ix_tup (pv 1) pe_int (fun _ _ => rfl)) (pa_cons (pe_ix ix_tup (pv 1) pe_int (fun _ _ => rfl)) (pa_cons (pe_ix ix_tup (pv 1) pe_int (fun _ _ => rfl)) pa_nil)))) (blkOk_by (own := [("_law_some", 2)]) (N := ["_law_way", "_law_rows", "_law_some"]) (sc := defScope sLGiven) (by decide +kernel))
        (fun _ _ _ _ _ => pg_name (i := 2) scLGiven.nd rfl (Or.inl rfl)) (fun _ _ _ _ _ => pts_nil) (fun _ _ _ _ _ => pe_dget hu (pv 0) (pv 2) (fun _ _ => rfl))) pa_nil)))), ?_⟩
    refine ⟨_, rfl, t, _, _, V.ref a, rfl, rfl, SqT.of ht, rfl, _, rfl, t, _, _, V.ref b, rfl, rfl, SqT.of ht, rfl, _, rfl, t, _, _, V.ref c, rfl, rfl, SqT.of ht, rfl, a, b, c, _, _, _, rfl, SqT.of ha, SqT.of hb, SqT.of hc, fun D hD => ?_⟩
    refine lc_it (walk_zip3 (xs := xs.map V.str) (ys := ys.map V.str) (ws := zs.map V.str) (n := n) (by rw [List.length_map, e1]) (by rw [List.length_map, e2]) (by rw [List.length_map, e3])) (fun i Hx => Hx D = some (.lst ((gvn g (xs.take i) (ys.take i) (zs.take i)).map V.str)) ∧ Same H Hx) ?_ ?_ ?_ ?_
    · exact ⟨upd_same, same_new hD⟩
    · exact fun i Hx _ q => ⟨SqT.of (q.2 _ _ ha), SqT.of (q.2 _ _ hb), SqT.of (q.2 _ _ hc)⟩
    · rintro i v Hx H4 hi ⟨q1, q2⟩ ⟨t, x', y', z', rfl, nt, rfl, ex', ey', ez'⟩
      obtain ⟨x, ex, rfl⟩ : ∃ x, xs[i]? = some x ∧ V.str x = x' := by
        rw [List.getElem?_map] at ex'
        exact Option.map_eq_some_iff.mp ex'
      obtain ⟨y, ey, rfl⟩ : ∃ x, ys[i]? = some x ∧ V.str x = y' := by
        rw [List.getElem?_map] at ey'
        exact Option.map_eq_some_iff.mp ey'
      obtain ⟨z, ez, rfl⟩ : ∃ x, zs[i]? = some x ∧ V.str x = z' := by
        rw [List.getElem?_map] at ez'
        exact Option.map_eq_some_iff.mp ez'
      have gv := hv x (o1 x (List.mem_of_getElem? ex)) y (o2 y (List.mem_of_getElem? ey)) z (o3 z (List.mem_of_getElem? ez))
      have st := same_new (o := .tup [V.str x, V.str y, V.str z]) nt
      refine ⟨rfl, ?_⟩
      refine ⟨_, rfl, _, rfl, d, V.str (g x y z), rfl, ?_, _, st _ _ q1, ?_, ?_, fun b o e => (upd_ne (ne_of_none e hD)).trans (st _ _ (q2 _ _ e))⟩
      · have := DGet.t (k := [Sum.inr x, Sum.inr y, Sum.inr z]) (st _ _ (q2 _ _ hd)) (upd_same (H := Hx) (a := t) (o := .tup [V.str x, V.str y, V.str z]))
        rw [gv] at this
        exact this
      · rw [List.length_map, gvn_len (n := i) (by rw [List.length_take]; omega) (by rw [List.length_take]; omega) (by rw [List.length_take]; omega)]
        exact len_ok (by omega)
      · rw [upd_same, gvn_take ex ey ez, List.map_append]
        rfl
    · rintro Hx ⟨q1, q2⟩
      rw [List.take_of_length_le (by omega), List.take_of_length_le (by omega), List.take_of_length_le (by omega)] at q1
      exact ⟨D, _, rfl, .inl ⟨SqL.of q1, fun T nT => k T _ (none_back q2 nT) upd_same fun b o e => same_new nT _ _ (q2 _ _ e)⟩⟩
end
end Yt

set_option Elab.async false
set_option linter.all false
set_option maxRecDepth 100000
set_option maxHeartbeats 2000000
namespace Yt
open PySem PySem.Spec PyProof.Rows L2
/-! ### a == b by the own __eq__ of a's class: whatever it tells -/
theorem op_eqOwn {X : Cx} {CX : CXT} {n : Nat} {C f : Addr} {fd : FuncData} {ps : List Str} {sp : Sp} {E : XK} (F : FnOk X.prog X.w X.K X.mg X.base CX n f fd ps sp) (hs : PySem.W.findIn X.K (.ref C) "__eq__" = some (some (.ref f))) (hf : PySem.W.isFn X.K (.ref f) = true) (hb : Binds X.K fd ps []) (hx : Passes CX X E) (hr : Room n X.A) :
    OpR X (compareOp .Eq) fun x y H Q => ∃ a b dx dy fs gs, x = .ref a ∧ y = .ref b ∧ H a = some (.ins C dx fs) ∧ H b = some (.ins C dy gs) ∧ sp [.ref a, .ref b] H Q E := by
  intro pins s σ H x y u v Q I rx ry d
  obtain ⟨a, b, dx, dy, fs, gs, rfl, rfl, ha, hb', hsp⟩ := d
  cases rx
  cases ry
  show wpAny (model X.prog X.w) X.A (richCompare .Eq (.ref a) (.ref b)) (EP X pins σ Q) X.xe s
  obtain ⟨_, J, _⟩ := ins_get I.hok ha
  obtain ⟨_, J', _⟩ := ins_get I.hok hb'
  obtain ⟨_, J, _⟩ := J.look
  obtain ⟨_, J', _⟩ := J'.look
  obtain ⟨m, hF⟩ := I.fr
  refine PySem.W.cmp_K (op := .Eq) (tb := .ref C) hr.units0 hF I.ok.mod.kin J J'.type (by simp [PySem.W.notFirst]) hs hf ?_
  have hl := F.len _ _ _ _ hsp
  refine wpAny_call (codeAny_mono (F.run X.A X.stack s H ⟨[.ref a, .ref b], []⟩ [.ref a, .ref b] [.ref a, .ref b] _ E hr I.env0 (by
    have q := hb s [.ref a, .ref b] I.kIn (by simpa using hl)
    simpa using q) (.cons rfl (.cons rfl .nil)) hsp) fun r t got => ?_)
  cases r with
  | error e => exact hx pins σ H s e t I got
  | ok fl =>
    cases fl with
    | ret z =>
      obtain ⟨v, H', I', rz, q⟩ := I.after got
      cases z <;> first
        | exact ⟨v, H', I', rz, q⟩
        | (exfalso; cases v <;> first | (obtain ⟨_, h⟩ := rz; exact nomatch h) | exact nomatch rz | (cases rz; done))
    | next => exact False.elim got
    | brk => exact False.elim got
    | cont => exact False.elim got
/-! ### data: marks, rows -/
def strsD (zs : List Str) : PyData := .list (zs.map PyData.str)
def rowsD (rs : List (List Str)) : PyData := .list (rs.map rowD)
theorem dp_strs {K : PySem.W.Frag} {H : Hp} : ∀ zs : List Str, DpAll K H (zs.map V.str) (zs.map PyData.str)
  | [] => .nil
  | z :: r => .cons (.str z) (dp_strs r)
theorem dp_rows {K : PySem.W.Frag} {H : Hp} : ∀ {M : List (Addr × List Str)}, (∀ e ∈ M, H e.1 = some (.tup (e.2.map V.str))) → DpAll K H (M.map fun e => V.ref e.1) ((M.map (·.2)).map rowD)
  | [], _ => .nil
  | e :: M, h => .cons (.tup (SqT.of (h e List.mem_cons_self)) (dp_strs e.2)) (dp_rows fun u hu => h u (List.mem_cons_of_mem _ hu))
theorem word_str {x : Str} (h : WordOk x) : PyData.strOk x = true := by
  unfold PyData.strOk
  rw [← Array.all_toList, List.all_eq_true]
  intro c hc
  have := h.2 c hc
  exact decide_eq_true (by omega)
theorem strs_lay : ∀ zs : List Str, (∀ z ∈ zs, WordOk z) → PyData.canLayAll0 (zs.map PyData.str) = true
  | [], _ => rfl
  | z :: r, h => by
    have := strs_lay r fun x hx => h x (List.mem_cons_of_mem _ hx)
    show (PyData.strOk z && PyData.canLayAll0 (r.map PyData.str)) = true
    rw [this, word_str (h z List.mem_cons_self)]
    rfl
theorem rows_lay : ∀ rs : List (List Str), (∀ r ∈ rs, ∀ z ∈ r, WordOk z) → PyData.canLayAll0 (rs.map rowD) = true
  | [], _ => rfl
  | r :: rs, h => by
    have h1 := rows_lay rs fun x hx => h x (List.mem_cons_of_mem _ hx)
    have h2 := strs_lay r (h r List.mem_cons_self)
    show (PyData.canLayAll0 (r.map PyData.str) && PyData.canLayAll0 (rs.map rowD)) = true
    rw [h1, h2]
    rfl
theorem rows_depth : ∀ rs : List (List Str), PyData.depthAll (rs.map rowD) ≤ 1
  | [] => by simp [PyData.depthAll]
  | r :: rs => by
    have h := rows_depth rs
    have h2 := row_depth r
    rw [List.map_cons, PyData.depthAll]
    unfold rowD
    rw [PyData.depth, h2]
    unfold rowD at h
    omega
theorem strs_shaped {zs : List Str} (h : ∀ z ∈ zs, WordOk z) : SeqAt.shaped (strsD zs) = true := by
  unfold SeqAt.shaped
  rw [show (strsD zs).canLay0 = true from strs_lay zs h, decide_eq_true (by unfold strsD; rw [PyData.depth, row_depth]; omega)]
  rfl
theorem rows_shaped {rs : List (List Str)} (h : ∀ r ∈ rs, ∀ z ∈ r, WordOk z) : SeqAt.shaped (rowsD rs) = true := by
  unfold SeqAt.shaped
  have d := rows_depth rs
  rw [show (rowsD rs).canLay0 = true from rows_lay rs h, decide_eq_true (by unfold rowsD; rw [PyData.depth]; omega)]
  rfl
theorem eqv_strs : ∀ a b : List Str, PyData.eqvAll (a.map PyData.str) (b.map PyData.str) = decide (a = b)
  | [], [] => rfl
  | [], _ :: _ => rfl
  | _ :: _, [] => rfl
  | x :: a, y :: b => by
    rw [List.map_cons, List.map_cons, PyData.eqvAll, eqv_strs a b]
    show (x == y && decide (a = b)) = _
    by_cases e : x = y <;> by_cases g : a = b <;> simp [e, g]
theorem eqv_rows : ∀ a b : List (List Str), PyData.eqvAll (a.map rowD) (b.map rowD) = decide (a = b)
  | [], [] => rfl
  | [], _ :: _ => rfl
  | _ :: _, [] => rfl
  | x :: a, y :: b => by
    rw [List.map_cons, List.map_cons, PyData.eqvAll, eqv_rows a b]
    show (PyData.eqvAll (x.map PyData.str) (y.map PyData.str) && decide (a = b)) = _
    rw [eqv_strs]
    by_cases e : x = y <;> by_cases g : a = b <;> simp [e, g]
/-- what a table holds, of words -/
def Words (ms : List Str) (rs : List (List Str)) : Prop := (∀ z ∈ ms, WordOk z) ∧ ∀ r ∈ rs, ∀ z ∈ r, WordOk z
section
variable {P : Program} {w : World} {K : PySem.W.Frag} {mg : Str → Option Value} {base : Heap} {f : Addr} {fd : FuncData}
theorem scTMarks : FnScope ["self"] ["self"] (defScope sTMarks) := ⟨rfl, rfl, rfl, by decide +kernel, rfl, by decide +kernel, by decide +kernel⟩
theorem scTWidth : FnScope ["self"] ["self"] (defScope sTWidth) := ⟨rfl, rfl, rfl, by decide +kernel, rfl, by decide +kernel, by decide +kernel⟩
theorem scTRows : FnScope ["self"] ["self"] (defScope sTRows) := ⟨rfl, rfl, rfl, by decide +kernel, rfl, by decide +kernel, by decide +kernel⟩
theorem scTEq : FnScope ["self", "other"] ["self", "other"] (defScope sTEq) := ⟨rfl, rfl, rfl, by decide +kernel, rfl, by decide +kernel, by decide +kernel⟩
def spTMarks (C : Addr) : Sp := fun vs H Q _ => ∃ (p : Addr) (ms : List Str) (d : Nat) (rs : List (List Str)), vs = [.ref p] ∧ TableAt C H p ms d rs ∧ ∀ (L : Addr) (H' : Hp), H L = none → H' L = some (.lst (ms.map V.str)) → Same H H' → Q (.ref L) H'
def spTWidth (C : Addr) : Sp := fun vs H Q _ => ∃ (p : Addr) (ms : List Str) (d : Nat) (rs : List (List Str)), vs = [.ref p] ∧ TableAt C H p ms d rs ∧ Q (.int ((d + 1 : Nat) : Int)) H
def spTRows (C : Addr) : Sp := fun vs H Q _ => ∃ (p : Addr) (ms : List Str) (d : Nat) (rs : List (List Str)), vs = [.ref p] ∧ TableAt C H p ms d rs ∧ ∀ (L : Addr) (M : List (Addr × List Str)) (H' : Hp), H L = none → H' L = some (.lst (M.map fun e => V.ref e.1)) → RowsIn H d M → M.map (·.2) = rs → Same H H' → Q (.ref L) H'
def spTEq (C : Addr) : Sp := fun vs H Q _ => ∃ (p q : Addr) (ms ns : List Str) (d e : Nat) (rs us : List (List Str)), vs = [.ref p, .ref q] ∧ TableAt C H p ms d rs ∧ TableAt C H q ns e us ∧ Words ms rs ∧ Words ns us ∧ Q (.bl (decide (ms = ns ∧ d = e ∧ rs = us))) H
theorem ok_tmarks {C : Addr} (F : MethP K "marks" sTMarks f fd) (TT : TC K mg C) (T6 : Nm6 mg) : FnOk P w K mg base CX0 1 f fd ["self"] (spTMarks C) := by
  refine FunD.ok F scTMarks (fun vs H Q E h => ?_) (fun cdv A outer s H vs Q E hr h => ?_)
  · obtain ⟨p, ms, d, rs, rfl, _⟩ := h
    rfl
  · obtain ⟨p, ms, d, rs, rfl, ⟨dx, A1, R, M, h1, h2, h3, h4, h5⟩, k⟩ := h
    refine ⟨_, PSs.nox (pss_one (ps_ret (pe_callTy call_list_of (by rfl) T6.list (by decide +kernel) (pa_cons (pe_fld (pv 0) rfl) pa_nil)))), ?_⟩
    exact ⟨_, rfl, p, C, dx, _, _, rfl, h1, TT.cl, TT.nM, tf_marks _ _ _, A1, _, rfl, .inl (SqL.of h2), fun L nL => k L _ nL upd_same (same_new nL)⟩
theorem ok_twidth {C : Addr} (F : MethP K "width" sTWidth f fd) (TT : TC K mg C) : FnOk P w K mg base CX0 1 f fd ["self"] (spTWidth C) := by
  refine FunD.ok F scTWidth (fun vs H Q E h => ?_) (fun cdv A outer s H vs Q E hr h => ?_)
  · obtain ⟨p, ms, d, rs, rfl, _⟩ := h
    rfl
  · obtain ⟨p, ms, d, rs, rfl, ⟨dx, A1, R, M, h1, h2, h3, h4, h5⟩, k⟩ := h
    refine ⟨_, PSs.nox (pss_one (ps_ret (pe_fld (pv 0) rfl))), ?_⟩
    exact ⟨_, rfl, p, C, dx, _, _, rfl, h1, TT.cl, TT.nW, tf_width _ _ _, k⟩
theorem ok_trows {C : Addr} (F : MethP K "rows" sTRows f fd) (TT : TC K mg C) (T6 : Nm6 mg) : FnOk P w K mg base CX0 1 f fd ["self"] (spTRows C) := by
  refine FunD.ok F scTRows (fun vs H Q E h => ?_) (fun cdv A outer s H vs Q E hr h => ?_)
  · obtain ⟨p, ms, d, rs, rfl, _⟩ := h
    rfl
  · obtain ⟨p, ms, d, rs, rfl, ⟨dx, A1, R, M, h1, h2, h3, h4, h5, h6⟩, k⟩ := h
    refine ⟨_, PSs.nox (pss_one (ps_ret (pe_callTy call_list_of (by rfl) T6.list (by decide +kernel) (pa_cons (pe_fld (pv 0) rfl) pa_nil)))), ?_⟩
    exact ⟨_, rfl, p, C, dx, _, _, rfl, h1, TT.cl, TT.nR, tf_rows _ _ _, R, _, rfl, .inl (SqL.of h3), fun L nL => k L M _ nL upd_same h4 h5 (same_new nL)⟩
theorem ok_teq {C : Addr} (F : MethP K "__eq__" sTEq f fd) (TT : TC K mg C) (T6 : Nm6 mg) : FnOk P w K mg base CX0 1 f fd ["self", "other"] (spTEq C) := by
  refine FunD.ok F scTEq (fun vs H Q E h => ?_) (fun cdv A outer s H vs Q E hr h => ?_)
  · obtain ⟨p, q, ms, ns, d, e, rs, us, rfl, _⟩ := h
    rfl
  · obtain ⟨p, q, ms, ns, d, e, rs, us, rfl, ⟨dx, A1, R, M, h1, h2, h3, h4, h5, h6⟩, ⟨dy, B1, S, N, g1, g2, g3, g4, g5, g6⟩, w1, w2, k⟩ := h
    refine ⟨_, PSs.nox (pss_one (ps_ret (pe_and (pe_callB call_isi (by rfl) T6.isi (by decide +kernel) (pa_cons (pv 1) (pa_cons (pe_glob (v := .ref C) rfl TT.mgC rfl) pa_nil)))
      (pe_and (pe_cmpR (op_eqD hr.units) (pe_fld (pv 0) rfl) (pe_fld (pv 1) rfl) (nomark _))
      (pe_and (pe_cmpR op_eq (pe_fld (pv 0) rfl) (pe_fld (pv 1) rfl) (nomark _))
      (pe_one (pe_cmpR (op_eqD hr.units) (pe_fld (pv 0) rfl) (pe_fld (pv 1) rfl) (nomark _)))))))), ?_⟩
    refine ⟨_, rfl, _, _, .ref C, _, true, rfl, .own C, TT.is g1, TT.kit, true, rfl, ?_⟩
    refine iteT ?_
    refine ⟨_, rfl, p, C, dx, _, _, rfl, h1, TT.cl, TT.nM, tf_marks _ _ _, _, rfl, q, C, dy, _, _, rfl, g1, TT.cl, TT.nM, tf_marks _ _ _, strsD ms, strsD ns, .lst (SqL.of h2) (dp_strs ms), .lst (SqL.of g2) (dp_strs ns), strs_shaped w1.1, strs_shaped w2.1, decide (ms = ns), by show V.bl (PyData.eqvAll _ _) = _; rw [eqv_strs], ?_⟩
    by_cases em : ms = ns
    · rw [decide_eq_true em]
      refine iteT ?_
      refine ⟨_, rfl, p, C, dx, _, _, rfl, h1, TT.cl, TT.nW, tf_width _ _ _, _, rfl, q, C, dy, _, _, rfl, g1, TT.cl, TT.nW, tf_width _ _ _, rfl, decide (d = e), ?_, ?_⟩
      · congr 1
        by_cases ed : d = e
        · rw [ed]
          simp
        · rw [decide_eq_false ed, decide_eq_false (fun z => ed (by have := V.int.inj z; omega))]
      by_cases ed : d = e
      · rw [decide_eq_true ed]
        refine iteT ?_
        refine ⟨_, rfl, p, C, dx, _, _, rfl, h1, TT.cl, TT.nR, tf_rows _ _ _, _, rfl, q, C, dy, _, _, rfl, g1, TT.cl, TT.nR, tf_rows _ _ _, rowsD rs, rowsD us, .lst (SqL.of h3) (by rw [← h5]; exact dp_rows h4.at_), .lst (SqL.of g3) (by rw [← g5]; exact dp_rows g4.at_), rows_shaped w1.2, rows_shaped w2.2, ?_⟩
        show Q (V.bl (PyData.eqvAll _ _)) H
        rw [eqv_rows]
        have e1 : decide (ms = ns ∧ d = e ∧ rs = us) = decide (rs = us) := by simp [em, ed]
        rw [e1] at k
        exact k
      · rw [decide_eq_false ed]
        refine iteF ?_
        rw [decide_eq_false (fun z => ed z.2.1)] at k
        exact k
    · rw [decide_eq_false em]
      refine iteF ?_
      rw [decide_eq_false (fun z => em z.1)] at k
      exact k
end
end Yt

set_option Elab.async false
set_option linter.all false
set_option maxRecDepth 100000
set_option maxHeartbeats 2000000
namespace Yt
open PySem PySem.Spec PyProof.Rows L2
/-- row in a list of rows -/
def rInRows (K : PySem.W.Frag) : R2 := fun x y H Q => ∃ (t p : Addr) (r : List Str) (M : List (Addr × List Str)), x = .ref t ∧ y = .ref p ∧ H t = some (.tup (r.map V.str)) ∧ H p = some (.lst (M.map fun e => V.ref e.1)) ∧ (∀ e ∈ M, H e.1 = some (.tup (e.2.map V.str))) ∧ Q (.bl (decide (r ∈ M.map (·.2)))) H
theorem str_inj : ∀ {a b : List Str}, a.map V.str = b.map V.str → a = b
  | [], [], _ => rfl
  | [], _ :: _, h => by cases h
  | _ :: _, [], h => by cases h
  | x :: a, y :: b, h => by
    rw [List.map_cons, List.map_cons, List.cons.injEq] at h
    rw [V.str.inj h.1, str_inj h.2]
theorem items_any {P P' : Program} {w w' : World} {k : List Key} {vs : List Value} (h : ItemsAre (mixKind P w) k vs) : ItemsAre (mixKind P' w') k vs := by
  induction h with
  | nil => exact .nil
  | cons h1 _ ih => exact .cons h1 ih
theorem tup_any {P P' : Program} {w w' : World} {h : Heap} {k : List Key} {b : Addr} (x : IsTup P w h k b) : IsTup P' w' h k b := by
  obtain ⟨o, its, n, h1, h2, h3, h4⟩ := x
  exact ⟨o, its, n, h1, h2, h3, items_any h4⟩
theorem op_in_rows {X : Cx} (hu : X.A.units + 1 < cLine) : OpR X (compareOp .In) (rInRows X.K) := by
  intro pins s σ H x y v u Q I rx ry h
  obtain ⟨t, p, r, M, rfl, rfl, ht, hp, hM, q⟩ := h
  cases rx
  cases ry
  obtain ⟨its, rv, pl, hz⟩ := I.list (SqL.of hp)
  obtain rfl := refs_back rv
  have key : ∀ {b : Addr} {z : List Str}, H b = some (.tup (z.map V.str)) → IsTup X.prog X.w s.heap (kR z) b := fun {b z} e => stand_tups I.hok (L := [(b, kR z)]) (fun e' he => by
    rw [List.mem_singleton.mp he]
    show H b = some (.tup ((kR z).map kV))
    rw [kR_V]
    exact e) (b, kR z) (List.mem_singleton.mpr rfl)
  open Classical in
  refine SeqAt.in_listAt (fun v => decide (∃ e ∈ M, v = Value.ref e.1 ∧ e.2 = r)) pl.isList (fun z hz => ?_) ⟨.bl _, H, I, rfl, ?_⟩
  · have hz : z ∈ M.map fun e => Value.ref e.1 := by simpa using hz
    obtain ⟨e, he, rfl⟩ := List.mem_map.mp hz
    intro prog w E Q hq
    refine wpAny_eqBool_tuple (knd := mixKind prog w) (x := kR e.2) (y := kR r) (units_in1 hu) (tup_any (key (hM e he))) (tup_any (key ht)) ?_
    have eq1 : decide (kR e.2 = kR r) = decide (∃ e' ∈ M, Value.ref e.1 = Value.ref e'.1 ∧ e'.2 = r) := by
      by_cases c : e.2 = r
      · rw [decide_eq_true (by rw [c]), decide_eq_true ⟨e, he, rfl, c⟩]
      · rw [decide_eq_false (fun z => c (kR_inj z)), decide_eq_false]
        rintro ⟨e', he', ea, er⟩
        have ea : e.1 = e'.1 := by injection ea
        have h1 := hM e he
        rw [ea, hM e' he'] at h1
        have := str_inj (HO.tup.inj (Option.some.inj h1))
        exact c (by rw [← this, er])
    rw [eq1]
    exact hq
  · have : (Array.any ((M.map fun e => Value.ref e.1).toArray) fun v => decide (∃ e ∈ M, v = Value.ref e.1 ∧ e.2 = r)) = decide (r ∈ M.map (·.2)) := by
      rw [List.any_toArray]
      by_cases c : r ∈ M.map (·.2)
      · rw [decide_eq_true c, List.any_eq_true]
        obtain ⟨e, he, er⟩ := List.mem_map.mp c
        exact ⟨_, List.mem_map.mpr ⟨e, he, rfl⟩, decide_eq_true ⟨e, he, rfl, er⟩⟩
      · rw [decide_eq_false c, List.any_eq_false]
        rintro v hv hd
        obtain ⟨e, he, _, er⟩ := of_decide_eq_true hd
        exact c (List.mem_map.mpr ⟨e, he, er⟩)
    rw [this]
    exact q
/-- row not in a list of rows -/
def rNInRows (K : PySem.W.Frag) : R2 := fun x y H Q => ∃ (t p : Addr) (r : List Str) (M : List (Addr × List Str)), x = .ref t ∧ y = .ref p ∧ H t = some (.tup (r.map V.str)) ∧ H p = some (.lst (M.map fun e => V.ref e.1)) ∧ (∀ e ∈ M, H e.1 = some (.tup (e.2.map V.str))) ∧ Q (.bl (!decide (r ∈ M.map (·.2)))) H
theorem op_notin_rows {X : Cx} (hu : X.A.units + 1 < cLine) : OpR X (compareOp .NotIn) (rNInRows X.K) := by
  intro pins s σ H x y v u Q I rx ry h
  obtain ⟨t, p, r, M, rfl, rfl, ht, hp, hM, q⟩ := h
  cases rx
  cases ry
  obtain ⟨its, rv, pl, hz⟩ := I.list (SqL.of hp)
  obtain rfl := refs_back rv
  have key : ∀ {b : Addr} {z : List Str}, H b = some (.tup (z.map V.str)) → IsTup X.prog X.w s.heap (kR z) b := fun {b z} e => stand_tups I.hok (L := [(b, kR z)]) (fun e' he => by
    rw [List.mem_singleton.mp he]
    show H b = some (.tup ((kR z).map kV))
    rw [kR_V]
    exact e) (b, kR z) (List.mem_singleton.mpr rfl)
  open Classical in
  refine SeqAt.notIn_listAt (fun v => decide (∃ e ∈ M, v = Value.ref e.1 ∧ e.2 = r)) pl.isList (fun z hz => ?_) ⟨.bl _, H, I, rfl, ?_⟩
  · have hz : z ∈ M.map fun e => Value.ref e.1 := by simpa using hz
    obtain ⟨e, he, rfl⟩ := List.mem_map.mp hz
    intro prog w E Q hq
    refine wpAny_eqBool_tuple (knd := mixKind prog w) (x := kR e.2) (y := kR r) (units_in1 hu) (tup_any (key (hM e he))) (tup_any (key ht)) ?_
    have eq1 : decide (kR e.2 = kR r) = decide (∃ e' ∈ M, Value.ref e.1 = Value.ref e'.1 ∧ e'.2 = r) := by
      by_cases c : e.2 = r
      · rw [decide_eq_true (by rw [c]), decide_eq_true ⟨e, he, rfl, c⟩]
      · rw [decide_eq_false (fun z => c (kR_inj z)), decide_eq_false]
        rintro ⟨e', he', ea, er⟩
        have ea : e.1 = e'.1 := by injection ea
        have h1 := hM e he
        rw [ea, hM e' he'] at h1
        have := str_inj (HO.tup.inj (Option.some.inj h1))
        exact c (by rw [← this, er])
    rw [eq1]
    exact hq
  · have : (Array.any ((M.map fun e => Value.ref e.1).toArray) fun v => decide (∃ e ∈ M, v = Value.ref e.1 ∧ e.2 = r)) = decide (r ∈ M.map (·.2)) := by
      rw [List.any_toArray]
      by_cases c : r ∈ M.map (·.2)
      · rw [decide_eq_true c, List.any_eq_true]
        obtain ⟨e, he, er⟩ := List.mem_map.mp c
        exact ⟨_, List.mem_map.mpr ⟨e, he, rfl⟩, decide_eq_true ⟨e, he, rfl, er⟩⟩
      · rw [decide_eq_false c, List.any_eq_false]
        rintro v hv hd
        obtain ⟨e, he, _, er⟩ := of_decide_eq_true hd
        exact c (List.mem_map.mpr ⟨e, he, er⟩)
    rw [this]
    exact q
def lessR (rs : List (List Str)) (ws : List (List Str)) : List (List Str) := ws.filter fun r => !decide (r ∈ rs)
theorem lessR_step {rs ws : List (List Str)} {j : Nat} {r : List Str} (e : ws[j]? = some r) : lessR rs (ws.take (j + 1)) = lessR rs (ws.take j) ++ (if r ∈ rs then [] else [r]) := by
  unfold lessR
  rw [List.take_add_one, e, List.filter_append]
  show _ ++ List.filter _ [r] = _
  by_cases c : r ∈ rs
  · rw [if_pos c, List.filter_cons_of_neg (by simp [c])] <;> rfl
  · rw [if_neg c, List.filter_cons_of_pos (by simp [c])] <;> rfl
def RowsAt (H : Hp) (l : Addr) (M : List (Addr × List Str)) : Prop := H l = some (.lst (M.map fun e => V.ref e.1)) ∧ ∀ e ∈ M, H e.1 = some (.tup (e.2.map V.str))
def ClosedG (g : Str → Str → Str → Str) (F : List (List Str)) : Prop := ∀ x ∈ F, ∀ y ∈ F, ∀ z ∈ F, gvn g x y z ∈ F
def RowsOk (ms : List Str) (n : Nat) (F : List (List Str)) : Prop := ∀ r ∈ F, r.length = n ∧ ∀ z ∈ r, z ∈ ms
end Yt

set_option Elab.async false
set_option linter.all false
set_option maxRecDepth 100000
set_option maxHeartbeats 2000000
namespace Yt
open PySem PySem.Spec PyProof.Rows L2
abbrev sCheckTable : Stmt := top 19
/-! ### a list of rows, as it is made at D -/
def Built (D : Addr) (H0 : Hp) (rs : List (List Str)) (Hx : Hp) : Prop := ∃ M : List (Addr × List Str), Hx D = some (.lst (M.map fun e => V.ref e.1)) ∧ M.map (·.2) = rs ∧ (∀ e ∈ M, e.1 ≠ D ∧ Hx e.1 = some (.tup (e.2.map V.str))) ∧ Same H0 Hx
theorem Built.first {D : Addr} {H0 : Hp} (hD : H0 D = none) : Built D H0 [] (upd H0 D (.lst [])) := ⟨[], upd_same, rfl, (fun e he => nomatch he), same_new hD⟩
theorem Built.more {D : Addr} {H0 Hx H' : Hp} {rs : List (List Str)} (B : Built D H0 rs Hx) (hD : H0 D = none) {t : Addr} {r : List Str} (s : Same Hx H') (ht : H' t = some (.tup (r.map V.str))) :
    ∃ acc, H' D = some (.lst acc) ∧ acc.length = rs.length ∧ Built D H0 (rs ++ [r]) (upd H' D (.lst (acc ++ [.ref t]))) := by
  obtain ⟨M, h1, h2, h3, h4⟩ := B
  have tD : t ≠ D := fun z => by
    rw [z, s _ _ h1] at ht
    cases ht
  refine ⟨_, s _ _ h1, by rw [List.length_map, ← h2, List.length_map], M ++ [(t, r)], by rw [upd_same, List.map_append] <;> rfl, by rw [List.map_append, h2] <;> rfl, fun e he => ?_, fun b o e => (upd_ne (ne_of_none e hD)).trans (s _ _ (h4 _ _ e))⟩
  rcases List.mem_append.mp he with he | he
  · exact ⟨(h3 e he).1, (upd_ne (h3 e he).1).trans (s _ _ (h3 e he).2)⟩
  · rw [List.mem_singleton.mp he]
    exact ⟨tD, (upd_ne tD).trans ht⟩
/-! [.. for .. for ..]: the two clauses -/
theorem lc2_out {J : It} {n : Nat} {G : Hp → Prop} {S : Nat → Hp → V → Hp → Prop} (w : Walk J n G S) {g : TG} {tt : TT} {wi1 : TI} {g1 : TG} {tt1 : TT} {te : TE} {vs vs1 : List Nat} {σ : L2.St} {D : Addr} {H1 : Hp} {R : Hp → Prop} (Pv : Nat → Hp → Prop) (h0 : Pv 0 H1) (hG : ∀ i H, i ≤ n → Pv i H → G H)
    (hs : ∀ i x H H', i < n → Pv i H → S i H x H' → g x (wipe σ vs) H' fun σ2 H2 => wipe σ2 vs = wipe σ vs ∧ tt σ2 H2 fun b H3 =>
      if b = true then wi1 σ2 H3 fun J1 H4 => ∃ W1 : Nat → Nat → Hp → Prop, (∃ m, W1 0 m H4) ∧ ∀ j k H, W1 j k H →
        (J1.stop j H ∧ Pv (i + 1) H) ∨ (J1.go j H ∧ ∃ Nx1 : Hp → Prop, (∀ H', Nx1 H' → ∃ k', k' < k ∧ W1 (j + 1) k' H') ∧ ∀ x H', J1.yld j H x H' → g1 x (wipe σ2 vs1) H' fun σ3 H5 => wipe σ3 vs1 = wipe σ2 vs1 ∧ tt1 σ3 H5 fun b H6 =>
          if b = true then te σ3 H6 fun y H7 => ∃ acc, H7 D = some (.lst acc) ∧ acc.length < sizeLine ∧ Nx1 (upd H7 D (.lst (acc ++ [y]))) else Nx1 H6)
      else Pv (i + 1) H3) (hd : ∀ H, Pv n H → R H) :
    ∃ W : Nat → Nat → Hp → Prop, (∃ m, W 0 m H1) ∧ ∀ i m H, W i m H →
    (J.stop i H ∧ R H) ∨ (J.go i H ∧ ∃ Nx : Hp → Prop, (∀ H', Nx H' → ∃ m', m' < m ∧ W (i + 1) m' H') ∧ ∀ x H', J.yld i H x H' → g x (wipe σ vs) H' fun σ2 H2 => wipe σ2 vs = wipe σ vs ∧ tt σ2 H2 fun b H3 =>
      if b = true then wi1 σ2 H3 fun J1 H4 => ∃ W1 : Nat → Nat → Hp → Prop, (∃ m, W1 0 m H4) ∧ ∀ j k H, W1 j k H →
        (J1.stop j H ∧ Nx H) ∨ (J1.go j H ∧ ∃ Nx1 : Hp → Prop, (∀ H', Nx1 H' → ∃ k', k' < k ∧ W1 (j + 1) k' H') ∧ ∀ x H', J1.yld j H x H' → g1 x (wipe σ2 vs1) H' fun σ3 H5 => wipe σ3 vs1 = wipe σ2 vs1 ∧ tt1 σ3 H5 fun b H6 =>
          if b = true then te σ3 H6 fun y H7 => ∃ acc, H7 D = some (.lst acc) ∧ acc.length < sizeLine ∧ Nx1 (upd H7 D (.lst (acc ++ [y]))) else Nx1 H6)
      else Nx H3) := by
  refine ⟨fun i m H => m = n - i ∧ i ≤ n ∧ Pv i H, ⟨_, rfl, Nat.zero_le _, h0⟩, ?_⟩
  rintro i m H ⟨rfl, le, pv⟩
  rcases Nat.lt_or_ge i n with lt | ge
  · exact .inr ⟨w.goes i H lt (hG i H le pv), Pv (i + 1), fun H' p' => ⟨n - (i + 1), by omega, rfl, lt, p'⟩, fun x H' y => hs i x H H' lt pv (w.yields i H x H' lt (hG i H le pv) y)⟩
  · obtain rfl : i = n := Nat.le_antisymm le ge
    exact .inl ⟨w.stops H (hG _ H le pv), hd H pv⟩
theorem lc2_in {J : It} {n : Nat} {G : Hp → Prop} {S : Nat → Hp → V → Hp → Prop} (w : Walk J n G S) {g1 : TG} {tt1 : TT} {te : TE} {vs1 : List Nat} {σ : L2.St} {D : Addr} {H1 : Hp} {R : Hp → Prop} (Pv : Nat → Hp → Prop) (h0 : Pv 0 H1) (hG : ∀ i H, i ≤ n → Pv i H → G H)
    (hs : ∀ i x H H', i < n → Pv i H → S i H x H' → g1 x (wipe σ vs1) H' fun σ3 H5 => wipe σ3 vs1 = wipe σ vs1 ∧ tt1 σ3 H5 fun b H6 =>
      if b = true then te σ3 H6 fun y H7 => ∃ acc, H7 D = some (.lst acc) ∧ acc.length < sizeLine ∧ Pv (i + 1) (upd H7 D (.lst (acc ++ [y]))) else Pv (i + 1) H6) (hd : ∀ H, Pv n H → R H) :
    ∃ W1 : Nat → Nat → Hp → Prop, (∃ m, W1 0 m H1) ∧ ∀ j k H, W1 j k H →
      (J.stop j H ∧ R H) ∨ (J.go j H ∧ ∃ Nx1 : Hp → Prop, (∀ H', Nx1 H' → ∃ k', k' < k ∧ W1 (j + 1) k' H') ∧ ∀ x H', J.yld j H x H' → g1 x (wipe σ vs1) H' fun σ3 H5 => wipe σ3 vs1 = wipe σ vs1 ∧ tt1 σ3 H5 fun b H6 =>
        if b = true then te σ3 H6 fun y H7 => ∃ acc, H7 D = some (.lst acc) ∧ acc.length < sizeLine ∧ Nx1 (upd H7 D (.lst (acc ++ [y]))) else Nx1 H6) := by
  refine ⟨fun i m H => m = n - i ∧ i ≤ n ∧ Pv i H, ⟨_, rfl, Nat.zero_le _, h0⟩, ?_⟩
  rintro i m H ⟨rfl, le, pv⟩
  rcases Nat.lt_or_ge i n with lt | ge
  · exact .inr ⟨w.goes i H lt (hG i H le pv), Pv (i + 1), fun H' p' => ⟨n - (i + 1), by omega, rfl, lt, p'⟩, fun x H' y => hs i x H H' lt pv (w.yields i H x H' lt (hG i H le pv) y)⟩
  · obtain rfl : i = n := Nat.le_antisymm le ge
    exact .inl ⟨w.stops H (hG _ H le pv), hd H pv⟩
def rowsN (ms : List Str) : Nat → List (List Str)
  | 0 => [[]]
  | n + 1 => (rowsN ms n).flatMap fun r => ms.map fun c => r ++ [c]
theorem flat_len (ms : List Str) : ∀ l : List (List Str), (l.flatMap fun r => ms.map fun c => r ++ [c]).length = l.length * ms.length
  | [] => by simp
  | x :: l => by rw [List.flatMap_cons, List.length_append, flat_len ms l, List.length_map, List.length_cons, Nat.add_mul, Nat.one_mul, Nat.add_comm]
theorem rowsN_len (ms : List Str) : ∀ n, (rowsN ms n).length = ms.length ^ n
  | 0 => rfl
  | n + 1 => by
    show ((rowsN ms n).flatMap fun r => ms.map fun c => r ++ [c]).length = _
    have go : ∀ l : List (List Str), (l.flatMap fun r => ms.map fun c => r ++ [c]).length = l.length * ms.length := fun l => by
      induction l with
      | nil => simp
      | cons x l ih => rw [List.flatMap_cons, List.length_append, ih, List.length_map, List.length_cons, Nat.add_mul, Nat.one_mul, Nat.add_comm]
    rw [go, rowsN_len ms n, Nat.pow_succ]
theorem rowsN_mem (ms : List Str) : ∀ (n : Nat) (r : List Str), r ∈ rowsN ms n ↔ r.length = n ∧ ∀ z ∈ r, z ∈ ms
  | 0, r => by
    show r ∈ [[]] ↔ _
    rw [List.mem_singleton]
    refine ⟨fun e => by rw [e]; exact ⟨rfl, fun z hz => nomatch hz⟩, fun h => List.eq_nil_of_length_eq_zero h.1⟩
  | n + 1, r => by
    show r ∈ (rowsN ms n).flatMap _ ↔ _
    rw [List.mem_flatMap]
    constructor
    · rintro ⟨u, hu, h⟩
      obtain ⟨c, hc, rfl⟩ := List.mem_map.mp h
      obtain ⟨l, o⟩ := (rowsN_mem ms n u).mp hu
      refine ⟨by rw [List.length_append, l] <;> rfl, fun z hz => ?_⟩
      rcases List.mem_append.mp hz with hz | hz
      · exact o z hz
      · rw [List.mem_singleton.mp hz]
        exact hc
    · rintro ⟨l, o⟩
      rcases List.eq_nil_or_concat r with e | ⟨u, c, e⟩
      · rw [e] at l
        cases l
      · rw [List.concat_eq_append] at e
        subst e
        rw [List.length_append] at l
        exact ⟨u, (rowsN_mem ms n u).mpr ⟨by simpa using l, fun z hz => o z (List.mem_append_left _ hz)⟩, List.mem_map.mpr ⟨c, o c (List.mem_append_right _ (List.mem_singleton.mpr rfl)), rfl⟩⟩
end Yt

set_option Elab.async false
set_option linter.all false
set_option maxRecDepth 100000
set_option maxHeartbeats 2000000
namespace Yt
open PySem PySem.Spec PyProof.Rows L2
/-- the methods, as they are called -/
structure TM (P : Program) (w : World) (K : PySem.W.Frag) (mg : Str → Option Value) (base : Heap) (C : Addr) : Prop where
  tc : TC K mg C
  ini : ∃ f fd, FnOk P w K mg base CX0 4 f fd ["self", "marks", "width", "rows"] (spTInit C) ∧ Binds K fd ["self", "marks", "width", "rows"] [] ∧ Mk K C f
  marks : ∃ f fd, FnOk P w K mg base CX0 1 f fd ["self"] (spTMarks C) ∧ Binds K fd ["self"] [] ∧ Meth K C "marks" f
  width : ∃ f fd, FnOk P w K mg base CX0 1 f fd ["self"] (spTWidth C) ∧ Binds K fd ["self"] [] ∧ Meth K C "width" f
  rows : ∃ f fd, FnOk P w K mg base CX0 1 f fd ["self"] (spTRows C) ∧ Binds K fd ["self"] [] ∧ Meth K C "rows" f
  eq : ∃ f fd, FnOk P w K mg base CX0 1 f fd ["self", "other"] (spTEq C) ∧ Binds K fd ["self", "other"] [] ∧ PySem.W.findIn K (.ref C) "__eq__" = some (some (.ref f)) ∧ PySem.W.isFn K (.ref f) = true
/-- Table(..) -/
theorem make_table {C : Addr} {H : Hp} {a l : Addr} {d : Nat} {ms : List Str} {M0 : List (Addr × List Str)} {Q : VK} {E : XK} (ha : H a = some (.lst (ms.map V.str))) (ok : MarksOk ms) (hd : d ≤ 3) (hl : H l = some (.lst (M0.map fun e => V.ref e.1))) (hR : RowsIn H d M0) (over : ∀ e ∈ M0, ∀ z ∈ e.2, z ∈ ms)
    (k : ∀ (p : Addr) (H' : Hp) (rs : List (List Str)), H p = none → (∀ r, r ∈ rs ↔ r ∈ M0.map (·.2)) → TableAt C H' p ms d rs → Same H H' → Q (.ref p) H') :
    ∀ x dx, H x = none → H dx = none → dx ≠ x → spTInit C (.ref x :: ([.ref a, .int ((d + 1 : Nat) : Int), .ref l] ++ [])) (upd (upd H dx (.own x)) x (.ins C dx [])) (fun v H2 => v = .non ∧ Q (.ref x) H2) E := by
  intro x dx nx ndx ne
  have s : Same H (upd (upd H dx (.own x)) x (.ins C dx [])) := fun b o e => by
    rw [upd_ne (ne_of_none e nx), upd_ne (ne_of_none e ndx)]
    exact e
  exact ⟨x, dx, a, l, d, ms, M0, rfl, upd_same, s _ _ ha, ok, hd, s _ _ hl, hR.to s, over, fun H' rs mem T b => ⟨rfl, k x H' rs nx mem T fun c o e => b _ _ (ne_of_none e nx) (s _ _ e)⟩⟩
def Over (ms : List Str) (rs : List (List Str)) : Prop := ∀ r ∈ rs, ∀ z ∈ r, z ∈ ms
theorem Over.words {ms : List Str} {rs : List (List Str)} (o : Over ms rs) (ok : MarksOk ms) : Words ms rs := ⟨ok.2.2.2, fun r hr z hz => ok.2.2.2 z (o r hr z hz)⟩
theorem table_few {C : Addr} {H : Hp} {p : Addr} {ms : List Str} {d : Nat} {rs : List (List Str)} (T : TableAt C H p ms d rs) (o : Over ms rs) (few : ms.length ≤ 3) : rs.length ≤ 3 ^ (d + 1) := by
  obtain ⟨dx, A, R, M, h1, h2, h3, h4, rfl, h6⟩ := T
  have := nodup_few (M.map (·.2)) (rowsN ms (d + 1)) h6.nodup fun r hr => (rowsN_mem ms (d + 1) r).mpr ⟨by
    obtain ⟨e, he, rfl⟩ := List.mem_map.mp hr
    exact h4.len e he, o r hr⟩
  rw [rowsN_len] at this
  exact Nat.le_trans this (Nat.pow_le_pow_left few _)
section
variable {P : Program} {w : World} {K : PySem.W.Frag} {mg : Str → Option Value} {base : Heap} {f : Addr} {fd : FuncData} {C : Addr}
theorem scCheckTable : FnScope ["table"] ["table"] (defScope sCheckTable) := ⟨rfl, rfl, rfl, by decide +kernel, rfl, by decide +kernel, by decide +kernel⟩
abbrev TableArg (C : Addr) : Hp → List V → Prop := fun H vs => ∃ (p : Addr) (ms : List Str) (d : Nat) (rs : List (List Str)), vs = [.ref p] ∧ TableAt C H p ms d rs
theorem ok_checktable (F : FnP K "check_table" sCheckTable f fd) (TT : TC K mg C) (T6 : Nm6 mg) : FnOk P w K mg base CX0 1 f fd ["table"] (spNon (TableArg C)) := by
  refine F.ok scCheckTable (fun vs H Q E h => ?_) (fun cdv A outer s H vs Q E hr h => ?_)
  · obtain ⟨⟨p, ms, d, rs, rfl, _⟩, _⟩ := h
    rfl
  · obtain ⟨⟨p, ms, d, rs, rfl, ⟨dx, A1, R, M, h1, _⟩⟩, k⟩ := h
    refine ⟨_, PSs.nox (pss_one (ps_if (pt_not (pt_val (pe_callB call_isi (by rfl) T6.isi (by decide +kernel) (pa_cons (pv 0) (pa_cons (pe_glob (v := .ref C) rfl TT.mgC rfl) pa_nil))))) (pss_one ps_never) pss_nil)), ?_⟩
    refine ⟨_, rfl, _, _, .ref C, _, true, rfl, .own C, TT.is h1, TT.kit, _, rfl, ?_⟩
    refine iteF ?_
    exact k H fun _ _ e => e
theorem no_attr {A : Addr} {n : Int} {R : Addr} {m : Str} (h : (!decide (m = "_marks") && (!decide (m = "_width") && !decide (m = "_rows"))) = true) : (tf A n R).lookup m = none := by
  simp only [Bool.and_eq_true, Bool.not_eq_true', decide_eq_false_iff_not] at h
  exact tf_no A n R h.1 h.2.1 h.2.2
end
end Yt

set_option Elab.async false
set_option linter.all false
set_option maxRecDepth 100000
set_option maxHeartbeats 2000000
namespace Yt
open PySem PySem.Spec PyProof.Rows L2
abbrev sChosen : Stmt := top 21
abbrev sAreSpots : Stmt := top 22
theorem pexW {X : Cx} {e : Expr} {t t' : TE} (h : PE X e t) (k : ∀ σ H Q, t' σ H Q → t σ H Q) : PE X e t' := ⟨fun pins s σ H Q I q => h.run pins s σ H Q I (k σ H Q q)⟩
/-- what stands at these places -/
def at_ (r : List Str) (i : Nat) : Str := r.getD i ""
def spotted (ns : List Nat) (r : List Str) : List Str := ns.map (at_ r)
abbrev spotsV (ns : List Nat) : List V := ns.map fun i => V.int (i : Nat)
section
variable {P : Program} {w : World} {K : PySem.W.Frag} {mg : Str → Option Value} {base : Heap} {f : Addr} {fd : FuncData} {C : Addr}
theorem scAreSpots : FnScope ["width", "value", "spot"] ["width", "value"] (defScope sAreSpots) := ⟨rfl, rfl, rfl, by decide +kernel, rfl, by decide +kernel, by decide +kernel⟩
abbrev SpotsArg : Hp → List V → Prop := fun H vs => ∃ (d : Nat) (l : Addr) (ns : List Nat), vs = [.int ((d + 1 : Nat) : Int), .ref l] ∧ H l = some (.lst (spotsV ns)) ∧ 1 ≤ ns.length ∧ ns.length ≤ 4 ∧ ∀ i ∈ ns, i < d + 1
theorem ok_arespots {fN : Addr} {dN : FuncData} {t4 : Tok} (F : FnP K "_are_spots" sAreSpots f fd) (T : Nm mg) (T6 : Nm6 mg) (gM : mg "GREATEST_WIDTH" = some (.int 4 t4))
    (GN : FnOk P w K mg base CX0 1 fN dN ["value"] (spYes fun _ vs => ∃ n : Int, vs = [.int n] ∧ 0 ≤ n)) (bN : Binds K dN ["value"] []) (kN : PySem.W.keepIn K (.ref fN) = true) (gN : mg "is_count" = some (.ref fN)) :
    FnOk P w K mg base CX0 2 f fd ["width", "value"] (spYes SpotsArg) := by
  refine F.ok scAreSpots (fun vs H Q E h => ?_) (fun cdv A outer s H vs Q E hr h => ?_)
  · obtain ⟨⟨d, l, ns, rfl, _⟩, _⟩ := h
    rfl
  · obtain ⟨⟨d, l, ns, rfl, hl, n1, n4, lt⟩, k⟩ := h
    refine ⟨_, PSs.nox (pss_cons (ps_if (PW.pt (pw_or (pt_not (pt_val (pe_callB call_isi (by rfl) T6.isi (by decide +kernel) (pa_cons (pv 1) (pa_cons (pe_bltn (v := .ty "list") (u := .type "list") (by rfl) T6.list (by decide +kernel) rfl) pa_nil)))))
        (pw_or1 (pt_not (pt_chain op_le op_le pe_int (pe_callB call_len (by rfl) T.len PySem.boot_len (pa_cons (pv 1) pa_nil)) (pe_glob (v := .int 4) rfl gM ⟨_, rfl⟩)))))) (pss_one (ps_ret pe_bl)) pss_nil)
      (pss_one (ps_ret (pe_callB (cr_all rfl) (by rfl) T6.all (by decide +kernel) (pa_cons (pe_lc (own := [("spot", 2)]) (g := gName 2) (tt := tYes) rfl scAreSpots.nd (pi_list (pv 1)) (blkOk_by (own := [("spot", 2)]) (N := ["width", "value", "spot"]) (sc := defScope sAreSpots) (by decide +kernel))
        (fun _ _ _ _ _ => pg_name (i := 2) scAreSpots.nd rfl (Or.inl rfl)) (fun _ _ _ _ _ => pts_nil) (fun _ _ _ _ _ => pe_and (pe_call GN hr rfl gN kN bN .nil pass0 (pa_cons (pv 2) pa_nil)) (pe_one (pe_cmpR op_lt (pv 2) (pv 0) (nomark _))))) pa_nil))))), ?_⟩
    refine ⟨_, rfl, _, _, .type "list", _, true, rfl, .ty _, .base (.lst hl), kit_ty (by decide +kernel), _, rfl, ?_⟩
    refine iteF ?_
    refine ⟨_, rfl, _, (spotsV ns).length, rfl, Or.inl ⟨_, SqL.of hl, rfl⟩, _, _, rfl, rfl, true, by show V.bl (decide ((1 : Int) ≤ ((spotsV ns).length : Nat))) = _; rw [List.length_map, decide_eq_true (by omega)], ?_⟩
    refine iteT ?_
    refine ⟨_, _, rfl, rfl, true, by show V.bl (decide (((spotsV ns).length : Int) ≤ 4)) = _; rw [List.length_map, decide_eq_true (by omega)], ?_⟩
    refine iteF ?_
    refine ⟨_, rfl, l, rfl, ⟨_, SqL.of hl⟩, fun D hD => ?_⟩
    refine lc_list (K := K) (a := l) (xs := spotsV ns) (fun i Hx => Hx D = some (.lst ((List.replicate i true).map V.bl)) ∧ Same H Hx) ⟨upd_same, same_new hD⟩ (fun i Hx _ q => SqL.of (q.2 _ _ hl)) ?_ ?_
    · rintro i v Hx hv ⟨q1, q2⟩
      rw [List.getElem?_map] at hv
      obtain ⟨c, ec, rfl⟩ := Option.map_eq_some_iff.mp hv
      have hi : i < ns.length := (List.getElem?_eq_some_iff.mp ec).1
      have hc := lt c (List.mem_of_getElem? ec)
      refine ⟨rfl, ?_⟩
      refine ⟨_, rfl, ⟨_, rfl, by omega⟩, fun H3 s3 => ⟨true, rfl, ?_⟩⟩
      refine iteT ?_
      refine ⟨_, rfl, _, rfl, _, _, rfl, rfl, ?_⟩
      have e1 : V.bl (decide ((c : Int) < ((d + 1 : Nat) : Int))) = V.bl true := by rw [decide_eq_true (by omega)]
      show ∃ acc, _
      refine ⟨_, s3 _ _ q1, ?_, ?_, fun b o z => (upd_ne (ne_of_none z hD)).trans (s3 _ _ (q2 _ _ z))⟩
      · rw [List.length_map, List.length_replicate]
        exact len_ok (by omega)
      · rw [upd_same, List.replicate_succ', List.map_append]
        show some (HO.lst (_ ++ [V.bl (decide ((c : Int) < ((d + 1 : Nat) : Int)))])) = _
        rw [e1]
        rfl
    · rintro Hx ⟨q1, q2⟩
      refine ⟨D, List.replicate (spotsV ns).length true, rfl, SqL.of q1, ?_⟩
      rw [all_rep]
      exact k _ q2
theorem scChosen : FnScope ["table", "spots", "rows", "row", "spot"] ["table", "spots"] (defScope sChosen) := ⟨rfl, rfl, rfl, by decide +kernel, rfl, by decide +kernel, by decide +kernel⟩
def spChosen (C : Addr) : Sp := fun vs H Q _ => ∃ (p l : Addr) (ms : List Str) (d e : Nat) (rs : List (List Str)) (ns : List Nat), vs = [.ref p, .ref l] ∧ TableAt C H p ms d rs ∧ MarksOk ms ∧ rs.length ≤ 81 ∧ d ≤ 3 ∧ Over ms rs ∧ H l = some (.lst (spotsV ns)) ∧ ns.length = e + 1 ∧ e ≤ 3 ∧ (∀ i ∈ ns, i < d + 1) ∧
  ∀ (x : Addr) (H' : Hp) (ws : List (List Str)), H x = none → (∀ r, r ∈ ws ↔ r ∈ rs.map (spotted ns)) → TableAt C H' x ms e ws → Same H H' → Q (.ref x) H'
def tSpot : TE := fun σ H Q => ∃ (a0 : Option V) (l t : Addr) (ns : List Nat) (r : List Str) (u2 u4 : Option V), σ = [a0, some (.ref l), u2, some (.ref t), u4] ∧ H l = some (.lst (spotsV ns)) ∧ H t = some (.tup (r.map V.str)) ∧ (∀ i ∈ ns, i < r.length) ∧ ns.length ≤ 4 ∧
  ∀ (T : Addr) (H' : Hp), H' T = some (.tup ((spotted ns r).map V.str)) → Same H H' → Q (.ref T) H'
abbrev scRow : Scope := { kind := .function, names := [(".0", .local), ("row", .cell), ("tuple", .globalImplicit), ("spots", .free)], isGenerator := false, isCoroutine := false, more := [] }
theorem ok_chosen {fT fS : Addr} {dT dS : FuncData} (F : FnP K "chosen" sChosen f fd) (TM : TM P w K mg base C) (T : Nm mg) (T6 : Nm6 mg)
    (GT : FnOk P w K mg base CX0 1 fT dT ["table"] (spNon (TableArg C))) (bT : Binds K dT ["table"] []) (kT : PySem.W.keepIn K (.ref fT) = true) (gT : mg "check_table" = some (.ref fT))
    (GS : FnOk P w K mg base CX0 2 fS dS ["width", "value"] (spYes SpotsArg)) (bS : Binds K dS ["width", "value"] []) (kS : PySem.W.keepIn K (.ref fS) = true) (gS : mg "_are_spots" = some (.ref fS)) :
    FnOk P w K mg base CX0 6 f fd ["table", "spots"] (spChosen C) := by
  obtain ⟨fI, dI, GI, bI, mk⟩ := TM.ini
  obtain ⟨fA, dA, GA, bA, mA⟩ := TM.marks
  obtain ⟨fW, dW, GW, bW, mW⟩ := TM.width
  obtain ⟨fR, dR, GR, bR, mR⟩ := TM.rows
  have TT := TM.tc
  refine F.ok scChosen (fun vs H Q E h => ?_) (fun cdv A outer s H vs Q E hr h => ?_)
  · obtain ⟨p, l, ms, d, e, rs, ns, rfl, _⟩ := h
    rfl
  · obtain ⟨p, l, ms, d, e, rs, ns, rfl, T1, ok, few, d3, o1, hl, ln, e3, lt, k⟩ := h
    refine ⟨_, PSs.nox (pss_cons (ps_expr (pe_call GT (hr.mono (by decide)) rfl gT kT bT .nil pass0 (pa_cons (pv 0) pa_nil)))
      (pss_cons (ps_if (pt_not (pt_val (pe_call GS (hr.mono (by decide)) rfl gS kS bS .nil pass0 (pa_cons (pe_meth0 (pv 0) TT.cl mW GW (hr.mono (by decide)) bW .nil pass0) (pa_cons (pv 1) pa_nil))))) (pss_one ps_never) pss_nil)
      (pss_cons (ps_setLc (i := 2) (own := [("row", 3)]) (g := gName 3) (tt := tYes) (te := tSpot) rfl scChosen.nd rfl rfl (sw_true rfl rfl rfl (by decide +kernel)) (pi_list (pe_meth0 (pv 0) TT.cl mR GR (hr.mono (by decide)) bR .nil pass0)) (blkOk_by (own := [("row", 3)]) (N := ["table", "spots", "rows", "row", "spot"]) (sc := defScope sChosen) (by decide +kernel))
          (fun _ _ _ _ _ => pg_name (i := 3) scChosen.nd rfl (Or.inr rfl)) (fun _ _ _ _ _ => pts_nil)
          (fun _ _ _ _ _ => pexW (pe_callTy call_tuple_of (by rfl) T6.tuple (by decide +kernel) (pa_cons
              (pe_lc (own := [("spot", 4)]) (g := gName 4) (tt := tYes) (te := tOp (rIxT K) (tVar 3) (tVar 4)) rfl scChosen.nd (pi_list (pv 1)) (blkOk_by (own := [("spot", 4)]) (N := ["table", "spots", "rows", "row", "spot"]) (sc := relS scRow (defScope sChosen)) (by decide +kernel))
                (fun _ _ _ _ _ => pg_name (i := 4) scChosen.nd rfl (Or.inl rfl)) (fun _ _ _ _ _ => pts_nil) (fun _ _ _ _ _ => pe_ix ix_tup (pv 3) (pv 4) (fun _ _ => rfl))) pa_nil)) fun σ H Q hq => ?_))
      (pss_one (ps_ret (pe_make mk GI hr rfl TT.mgC bI .nil pass0 (pa_cons (pe_meth0 (pv 0) TT.cl mA GA (hr.mono (by decide)) bA .nil pass0) (pa_cons (pe_callB call_len (by rfl) T.len PySem.boot_len (pa_cons (pv 1) pa_nil)) (pa_cons (pv 2) pa_nil))))))))), ?_⟩
    · obtain ⟨a0, l, t, ns, r, u2, u4, rfl, hl, ht, lt, n4, k⟩ := hq
      refine ⟨_, rfl, l, rfl, ⟨_, SqL.of hl⟩, fun D hD => ?_⟩
      refine lc_list (K := K) (a := l) (xs := spotsV ns) (fun i Hx => Hx D = some (.lst (((ns.take i).map (at_ r)).map V.str)) ∧ Same H Hx) ⟨upd_same, same_new hD⟩ (fun i Hx _ q => SqL.of (q.2 _ _ hl)) ?_ ?_
      · rintro i v Hx hv ⟨q1, q2⟩
        rw [List.getElem?_map] at hv
        obtain ⟨c, ec, rfl⟩ := Option.map_eq_some_iff.mp hv
        have hc := lt c (List.mem_of_getElem? ec)
        have hi : i < ns.length := (List.getElem?_eq_some_iff.mp ec).1
        have er : r[c]? = some (at_ r c) := by
          unfold at_
          rw [List.getD_eq_getElem?_getD, List.getElem?_eq_getElem hc]
          rfl
        refine ⟨rfl, ?_⟩
        refine ⟨_, rfl, _, rfl, t, r.map V.str, _, V.str (at_ r c), rfl, rfl, SqT.of (q2 _ _ ht), atI_nat (by rw [List.getElem?_map, er] <;> rfl), _, q1, ?_, ?_, fun b o z => (upd_ne (ne_of_none z hD)).trans (q2 _ _ z)⟩
        · rw [List.length_map, List.length_map, List.length_take]
          exact len_ok (by omega)
        · rw [upd_same, List.take_add_one, ec, List.map_append, List.map_append]
          rfl
      · rintro Hx ⟨q1, q2⟩
        have ll : (spotsV ns).length = ns.length := List.length_map _
        rw [ll, List.take_length] at q1
        exact ⟨D, _, rfl, .inl ⟨SqL.of q1, fun T nT => k T _ upd_same fun b o z => same_new nT _ _ (q2 _ _ z)⟩⟩
    · refine ⟨_, rfl, ⟨p, ms, d, rs, rfl, T1⟩, fun H1 s1 => ?_⟩
      obtain ⟨dx, A1, R, M, h1, _⟩ := id (T1.to s1)
      refine ⟨_, rfl, p, dx, _, rfl, h1, no_attr (by decide +kernel), p, ms, d, rs, rfl, T1.to s1, _, rfl, ⟨d, l, ns, rfl, s1 _ _ hl, by omega, by omega, lt⟩, fun H2 s2 => ⟨true, rfl, ?_⟩⟩
      refine iteF ?_
      have s12 : Same H H2 := fun b o z => s2 _ _ (s1 _ _ z)
      refine ⟨_, rfl, p, dx, _, rfl, s2 _ _ h1, no_attr (by decide +kernel), p, ms, d, rs, rfl, T1.to s12, fun L3 M3 H3 nL3 hL3 R3 e33 s3 => ?_⟩
      have s13 : Same H H3 := fun b o z => s3 _ _ (s12 _ _ z)
      have lr : rs.length ≤ 81 := few
      have lens : ∀ u ∈ rs, u.length = d + 1 := fun u hu => by
        rw [← e33] at hu
        obtain ⟨z, hz, rfl⟩ := List.mem_map.mp hu
        exact R3.len z hz
      refine ⟨L3, rfl, ⟨_, SqL.of hL3⟩, fun D hD => ?_⟩
      refine lc_list (K := K) (a := L3) (xs := M3.map fun e => V.ref e.1) (fun j Hx => Built D H3 ((rs.take j).map (spotted ns)) Hx) (Built.first hD) (fun j Hx _ ⟨_, _, _, _, z⟩ => SqL.of (z _ _ hL3)) ?_ ?_
      · rintro j x Hx ex hB
        rw [List.getElem?_map] at ex
        obtain ⟨u, hu, rfl⟩ := Option.map_eq_some_iff.mp ex
        have um := List.mem_of_getElem? hu
        have er : rs[j]? = some u.2 := by rw [← e33, List.getElem?_map, hu] <;> rfl
        have ur := List.mem_of_getElem? er
        obtain ⟨_, _, _, _, sx⟩ := id hB
        refine ⟨rfl, ?_⟩
        refine ⟨_, l, u.1, ns, u.2, _, _, rfl, sx _ _ (s13 _ _ hl), sx _ _ (s3 _ _ (R3.at_ u um)), fun i hi => by rw [lens u.2 ur]; exact lt i hi, by omega, fun T4 H4 hT4 s4 => ?_⟩
        obtain ⟨acc, b1, b2, b3⟩ := hB.more hD s4 hT4
        refine ⟨acc, b1, ?_, ?_⟩
        · rw [b2, List.length_map, List.length_take, sizeLine_eq]
          omega
        · rw [List.take_add_one, er, List.map_append]
          exact b3
      · rintro Hx ⟨W, q1, q2, q3, q4⟩
        have ll : (M3.map fun e => V.ref e.1).length = rs.length := by rw [← e33, List.length_map, List.length_map]
        rw [ll, List.take_length] at q2
        have s1x : Same H Hx := fun b o z => q4 _ _ (s13 _ _ z)
        refine ⟨_, rfl, p, dx, _, rfl, q4 _ _ (s3 _ _ (s2 _ _ h1)), no_attr (by decide +kernel), p, ms, d, rs, rfl, T1.to s1x, fun A5 H5 nA5 hA5 s5 => ?_⟩
        refine ⟨_, rfl, _, (spotsV ns).length, rfl, Or.inl ⟨_, SqL.of (s5 _ _ (s1x _ _ hl)), rfl⟩, _, rfl, ?_⟩
        have wid : ((spotsV ns).length : Int) = ((e + 1 : Nat) : Int) := by rw [List.length_map, ln]
        have mem : ∀ r : Addr × List Str, r ∈ W → ∃ u ∈ rs, spotted ns u = r.2 := fun r hr => List.mem_map.mp (by rw [← q2]; exact List.mem_map.mpr ⟨r, hr, rfl⟩)
        intro x dx' nx ndx nex
        have mt := make_table (C := C) (E := E0) (Q := Q) (d := e) hA5 ok e3 (s5 _ _ q1) ⟨fun r hr => s5 _ _ (q3 r hr).2, ?_, ?_⟩ ?_ ?_ x dx' nx ndx nex
        · rw [← wid] at mt
          exact mt
        · intro r hr
          obtain ⟨u, hu, er⟩ := mem r hr
          rw [← er]
          unfold spotted
          rw [List.length_map, ln]
        · have := congrArg List.length q2
          rw [List.length_map, List.length_map] at this
          omega
        · intro r hr z hz
          obtain ⟨u, hu, er⟩ := mem r hr
          rw [← er] at hz
          obtain ⟨i, hi, rfl⟩ := List.mem_map.mp hz
          refine o1 u hu _ ?_
          have hi' : i < u.length := by rw [lens u hu]; exact lt i hi
          unfold at_
          rw [List.getD_eq_getElem?_getD, List.getElem?_eq_getElem hi']
          exact List.getElem_mem hi'
        · intro x H7 ws nx mw T7 s7
          refine k x H7 ws ?_ (fun r => by rw [mw, q2]) T7 fun b o z => s7 _ _ (s5 _ _ (s1x _ _ z))
          cases z : H x with
          | none => rfl
          | some o =>
            rw [s5 _ _ (s1x _ _ z)] at nx
            cases nx
end
end Yt

set_option Elab.async false
set_option linter.all false
set_option maxRecDepth 100000
set_option maxHeartbeats 2000000
namespace Yt
open PySem PySem.Spec PyProof.Rows L2
abbrev sTwos : Stmt := top 20
abbrev sPairsOf : Stmt := top 26
/-! ### the twos of places -/
abbrev KV2 (i j : Nat) : List Key := [Sum.inl (i : Int), Sum.inl (j : Int)]
def twosN (n : Nat) : List (Nat × Nat) := (List.range n).flatMap fun i => (List.range (n - i)).map fun c => (i, i + c)
theorem twosN_mem {n : Nat} {p : Nat × Nat} : p ∈ twosN n ↔ p.1 ≤ p.2 ∧ p.2 < n := by
  unfold twosN
  rw [List.mem_flatMap]
  constructor
  · rintro ⟨i, hi, h⟩
    obtain ⟨c, hc, rfl⟩ := List.mem_map.mp h
    have := List.mem_range.mp hi
    have := List.mem_range.mp hc
    exact ⟨by show i ≤ i + c; omega, by show i + c < n; omega⟩
  · rintro ⟨h1, h2⟩
    obtain ⟨i, j⟩ := p
    have h1 : i ≤ j := h1
    have h2 : j < n := h2
    refine ⟨i, List.mem_range.mpr (by omega), List.mem_map.mpr ⟨j - i, List.mem_range.mpr (by omega), ?_⟩⟩
    congr 1
    omega
/-- a list of pairs of numbers, as it is made at D -/
def Built2 (D : Addr) (H0 : Hp) (ps : List (Nat × Nat)) (Hx : Hp) : Prop := ∃ M : List (Addr × Nat × Nat), Hx D = some (.lst (M.map fun e => V.ref e.1)) ∧ M.map (·.2) = ps ∧ (∀ e ∈ M, e.1 ≠ D ∧ Hx e.1 = some (.tup [.int (e.2.1 : Nat), .int (e.2.2 : Nat)])) ∧ Same H0 Hx
theorem Built2.first {D : Addr} {H0 : Hp} (hD : H0 D = none) : Built2 D H0 [] (upd H0 D (.lst [])) := ⟨[], upd_same, rfl, (fun e he => nomatch he), same_new hD⟩
theorem Built2.more {D : Addr} {H0 Hx H' : Hp} {ps : List (Nat × Nat)} (B : Built2 D H0 ps Hx) (hD : H0 D = none) {t : Addr} {r : Nat × Nat} (s : Same Hx H') (ht : H' t = some (.tup [.int (r.1 : Nat), .int (r.2 : Nat)])) :
    ∃ acc, H' D = some (.lst acc) ∧ acc.length = ps.length ∧ Built2 D H0 (ps ++ [r]) (upd H' D (.lst (acc ++ [.ref t]))) := by
  obtain ⟨M, h1, h2, h3, h4⟩ := B
  have tD : t ≠ D := fun z => by
    rw [z, s _ _ h1] at ht
    cases ht
  refine ⟨_, s _ _ h1, by rw [List.length_map, ← h2, List.length_map], M ++ [(t, r)], by rw [upd_same, List.map_append] <;> rfl, by rw [List.map_append, h2] <;> rfl, fun e he => ?_, fun b o e => (upd_ne (ne_of_none e hD)).trans (s _ _ (h4 _ _ e))⟩
  rcases List.mem_append.mp he with he | he
  · exact ⟨(h3 e he).1, (upd_ne (h3 e he).1).trans (s _ _ (h3 e he).2)⟩
  · rw [List.mem_singleton.mp he]
    exact ⟨tD, (upd_ne tD).trans ht⟩
section
variable {P : Program} {w : World} {K : PySem.W.Frag} {mg : Str → Option Value} {base : Heap} {f : Addr} {fd : FuncData} {C : Addr}
theorem scTwos : FnScope ["width", "i", "j"] ["width"] (defScope sTwos) := ⟨rfl, rfl, rfl, by decide +kernel, rfl, by decide +kernel, by decide +kernel⟩
def spTwos : Sp := fun vs H Q _ => ∃ d : Nat, vs = [.int ((d + 1 : Nat) : Int)] ∧ d ≤ 3 ∧ ∀ (L : Addr) (M : List (Addr × Nat × Nat)) (H' : Hp), H L = none → H' L = some (.lst (M.map fun e => V.ref e.1)) → M.map (·.2) = twosN (d + 1) → (∀ e ∈ M, H' e.1 = some (.tup [.int (e.2.1 : Nat), .int (e.2.2 : Nat)])) → Same H H' → Q (.ref L) H'
theorem ok_twos (F : FnP K "twos_of" sTwos f fd) (T : Nm mg) : FnOk P w K mg base CX0 1 f fd ["width"] spTwos := by
  refine F.ok scTwos (fun vs H Q E h => ?_) (fun cdv A outer s H vs Q E hr h => ?_)
  · obtain ⟨d, rfl, _⟩ := h
    rfl
  · obtain ⟨d, rfl, d3, k⟩ := h
    refine ⟨_, PSs.nox (pss_one (ps_ret (pe_lc2 (own := [("i", 1), ("j", 2)]) (vs1 := [2]) (g := gName 1) (tt := tYes) (g1 := gName 2) (tt1 := tYes) (wi1 := iRng2 (tCons (tVar 1) (tCons (tVar 0) tNil))) (te := tTup (tCons (tVar 1) (tCons (tVar 2) tNil))) rfl scTwos.nd (pi_range1 rfl T.range (pa_cons (pv 0) pa_nil)) (blkOk_by (own := [("i", 1), ("j", 2)]) (N := ["width", "i", "j"]) (sc := defScope sTwos) (by decide +kernel)) (by decide)
      (fun _ _ _ _ _ => pg_name (i := 1) scTwos.nd rfl (Or.inl rfl)) (fun _ _ _ _ _ => pts_nil)
      (fun _ _ _ _ _ => pi_range2 (by rfl) T.range (pa_cons (pv 1) (pa_cons (pv 0) pa_nil))) (fun _ _ _ _ _ => pg_name (i := 2) scTwos.nd rfl (Or.inl rfl)) (fun _ _ _ _ _ => pts_nil)
      (fun _ _ _ _ _ => pe_tup (pa_cons (pv 1) (pa_cons (pv 2) pa_nil)))))), ?_⟩
    refine ⟨_, rfl, _, rfl, by omega, by omega, fun D hD => ?_⟩
    have en : ((d + 1 : Nat) : Int).toNat = d + 1 := by omega
    rw [en]
    have len2 : ∀ (l : List Nat) (n : Nat), (l.flatMap fun i => (List.range (n - i)).map fun c => (i, i + c)).length ≤ l.length * n := fun l n => by
      induction l with
      | nil => simp
      | cons x l ih =>
        rw [List.flatMap_cons, List.length_append, List.length_map, List.length_range, List.length_cons, Nat.add_mul]
        omega
    refine lc2_out (walk_range (lo := 0) (n := d + 1)) (fun j Hx => Built2 D H (((List.range (d + 1)).take j).flatMap fun i => (List.range (d + 1 - i)).map fun c => (i, i + c)) Hx) (Built2.first hD) (fun _ _ _ _ => trivial) ?_ ?_
    · rintro i x Hx H' hi hB ⟨rfl, rfl⟩
      have ei : (List.range (d + 1))[i]? = some i := by rw [List.getElem?_range hi]
      refine ⟨rfl, ?_⟩
      refine ⟨_, rfl, _, rfl, _, _, rfl, ⟨by omega, by omega, by omega, by omega⟩, ?_⟩
      have en2 : (((d + 1 : Nat) : Int) - (0 + (i : Int))).toNat = d + 1 - i := by omega
      rw [en2]
      refine lc2_in (walk_range (lo := 0 + (i : Int)) (n := d + 1 - i)) (fun c Hy => Built2 D H ((((List.range (d + 1)).take i).flatMap fun i => (List.range (d + 1 - i)).map fun c => (i, i + c)) ++ ((List.range (d + 1 - i)).take c).map fun c => (i, i + c)) Hy) ?_ (fun _ _ _ _ => trivial) ?_ ?_
      · show Built2 D H (_ ++ []) _
        rw [List.append_nil]
        exact hB
      · rintro c y Hy H' hc hB2 ⟨rfl, rfl⟩
        have ec : (List.range (d + 1 - i))[c]? = some c := by rw [List.getElem?_range hc]
        refine ⟨rfl, ?_⟩
        refine ⟨_, rfl, _, rfl, (by show 2 ≤ sizeLine; decide), fun t nt => ?_⟩
        have e1 : (0 + (i : Int)) = ((i : Nat) : Int) := by omega
        have e2 : (0 + (i : Int) + (c : Int)) = ((i + c : Nat) : Int) := by omega
        have small : ((((List.range (d + 1)).take i).flatMap fun i => (List.range (d + 1 - i)).map fun c => (i, i + c)) ++ ((List.range (d + 1 - i)).take c).map fun c => (i, i + c)).length < 300 := by
          rw [List.length_append, List.length_map, List.length_take]
          have h1 := len2 ((List.range (d + 1)).take i) (d + 1)
          have h2 : ((List.range (d + 1)).take i).length * (d + 1) ≤ 4 * 4 := Nat.mul_le_mul (by rw [List.length_take, List.length_range]; omega) (by omega)
          omega
        obtain ⟨acc, b1, b2, b3⟩ := hB2.more hD (H' := upd H' t (.tup [V.int (0 + (i : Int)), V.int (0 + (i : Int) + (c : Int))])) (same_new nt) (t := t) (r := (i, i + c)) (by
          show _ = some (HO.tup [V.int ((i : Nat) : Int), V.int ((i + c : Nat) : Int)])
          rw [upd_same, e2, e1])
        refine ⟨acc, b1, by rw [b2, sizeLine_eq]; omega, ?_⟩
        rw [List.take_add_one, ec, List.map_append, ← List.append_assoc]
        exact b3
      · intro Hy hB2
        have l2 : (List.range (d + 1 - i)).take (d + 1 - i) = List.range (d + 1 - i) := List.take_of_length_le (by rw [List.length_range]; exact Nat.le_refl _)
        rw [l2] at hB2
        rw [take_flat _ _ ei]
        exact hB2
    · rintro Hx ⟨M, q1, q2, q3, q4⟩
      have ll : (List.range (d + 1)).take (d + 1) = List.range (d + 1) := List.take_of_length_le (by rw [List.length_range]; exact Nat.le_refl _)
      rw [ll] at q2
      exact k D M Hx hD q1 q2 (fun e he => (q3 e he).2) q4
end
end Yt

set_option Elab.async false
set_option linter.all false
set_option maxRecDepth 100000
set_option maxHeartbeats 2000000
namespace Yt
open PySem PySem.Spec PyProof.Rows L2
theorem twosN_nodup {d : Nat} (h : d ≤ 3) : (twosN (d + 1)).Nodup := by
  match d, h with
  | 0, _ => decide
  | 1, _ => decide
  | 2, _ => decide
  | 3, _ => decide
theorem KV2_inj {p q : Nat × Nat} (h : KV2 p.1 p.2 = KV2 q.1 q.2) : p = q := by
  obtain ⟨a, b⟩ := p
  obtain ⟨c, e⟩ := q
  simp only [KV2, List.cons.injEq, Sum.inl.injEq, and_true] at h
  congr 1 <;> omega
theorem map_perm {α β : Type} {f : α → β} {xs zs : List β} (hp : xs.Perm zs) : ∀ (ts : List α), zs = ts.map f → ∃ ts' : List α, xs = ts'.map f ∧ ts'.Perm ts := by
  induction hp with
  | nil =>
    intro ts e
    cases ts with
    | nil => exact ⟨[], rfl, List.Perm.refl _⟩
    | cons t ts => cases e
  | cons x _ ih =>
    intro ts e
    cases ts with
    | nil => cases e
    | cons t ts =>
      rw [List.map_cons, List.cons.injEq] at e
      obtain ⟨ts', e1, p1⟩ := ih _ e.2
      exact ⟨t :: ts', by rw [e.1, e1] <;> rfl, .cons _ p1⟩
  | swap x y l =>
    intro ts e
    match ts with
    | [] => cases e
    | [_] => cases e
    | t :: u :: ts =>
      rw [List.map_cons, List.map_cons, List.cons.injEq, List.cons.injEq] at e
      exact ⟨u :: t :: ts, by rw [e.1, e.2.1, e.2.2] <;> rfl, .swap _ _ _⟩
  | trans _ _ ih1 ih2 =>
    intro ts e
    obtain ⟨ts2, e2, p2⟩ := ih2 _ e
    obtain ⟨ts1, e1, p1⟩ := ih1 _ e2
    exact ⟨ts1, e1, p1.trans p2⟩
/-- the pair of what a row has at two places -/
def two (i j : Nat) (r : List Str) : List Str := [at_ r i, at_ r j]
/-- the pairs of rows, by places -/
def PairsAt (H : Hp) (D : Addr) (d : Nat) (rs : List (List Str)) : Prop := ∃ kvs : List (List Key × V), H D = some (.dT kvs) ∧ kvs.map (·.1) = (twosN (d + 1)).map (fun p => KV2 p.1 p.2) ∧
  ∀ e ∈ kvs, ∃ (i j : Nat) (L : Addr) (N : List (Addr × List Str)), e = (KV2 i j, .ref L) ∧ H L = some (.lst (N.map fun e => V.ref e.1)) ∧ RowsIn H 1 N ∧ ∀ x, x ∈ N.map (·.2) ↔ x ∈ rs.map (two i j)
/-- a row has all pairs that the rows have -/
def hasP (d : Nat) (rs : List (List Str)) (r : List Str) : Bool := (twosN (d + 1)).all fun p => decide (two p.1 p.2 r ∈ rs.map (two p.1 p.2))
theorem PairsAt.to {H H' : Hp} {D : Addr} {d : Nat} {rs : List (List Str)} (h : PairsAt H D d rs) (s : Same H H') : PairsAt H' D d rs := by
  obtain ⟨kvs, h1, h2, h3⟩ := h
  refine ⟨kvs, s _ _ h1, h2, fun e he => ?_⟩
  obtain ⟨i, j, L, N, e1, e2, e3, e4⟩ := h3 e he
  exact ⟨i, j, L, N, e1, s _ _ e2, e3.to s, e4⟩
theorem TableAt.len {C : Addr} {H : Hp} {p : Addr} {ms : List Str} {d : Nat} {rs : List (List Str)} (T : TableAt C H p ms d rs) : ∀ r ∈ rs, r.length = d + 1 := by
  obtain ⟨dx, A, R, M, h1, h2, h3, h4, rfl, h6⟩ := T
  intro r hr
  obtain ⟨e, he, rfl⟩ := List.mem_map.mp hr
  exact h4.len e he
theorem TableAt.up {C : Addr} {H : Hp} {p : Addr} {ms : List Str} {d : Nat} {rs : List (List Str)} (T : TableAt C H p ms d rs) : Up rs := by
  obtain ⟨dx, A, R, M, h1, h2, h3, h4, rfl, h6⟩ := T
  exact h6
theorem up_same {xs ys : List (List Str)} (h1 : Up xs) (h2 : Up ys) (m : ∀ r, r ∈ xs ↔ r ∈ ys) : xs = ys := up_uniq h1 h2 ((List.perm_ext_iff_of_nodup h1.nodup h2.nodup).mpr m)
end Yt

set_option Elab.async false
set_option linter.all false
set_option maxRecDepth 100000
set_option maxHeartbeats 2000000
namespace Yt
open PySem PySem.Spec PyProof.Rows L2
mutual
/-- data in the heap: what it is made of, all of it tracked -/
inductive Dv (H : Hp) : V → PyData → Prop
  | non : Dv H .non .none
  | bl (b : Bool) : Dv H (.bl b) (.bool b)
  | int (i : Int) : Dv H (.int i) (.int i)
  | str (x : Str) : Dv H (.str x) (.str x)
  | lst {a : Addr} {xs : List V} {ds : List PyData} : H a = some (.lst xs) → DvAll H xs ds → Dv H (.ref a) (.list ds)
  | tup {a : Addr} {xs : List V} {ds : List PyData} : H a = some (.tup xs) → DvAll H xs ds → Dv H (.ref a) (.tuple ds)
inductive DvAll (H : Hp) : List V → List PyData → Prop
  | nil : DvAll H [] []
  | cons {v : V} {vs : List V} {d : PyData} {ds : List PyData} : Dv H v d → DvAll H vs ds → DvAll H (v :: vs) (d :: ds)
end
section
variable {H H' : Hp}
mutual
theorem Dv.to (s : Same H H') : ∀ (d : PyData) {v : V}, Dv H v d → Dv H' v d
  | .none, _, h => by cases h; exact .non
  | .bool b, _, h => by cases h; exact .bl b
  | .int i, _, h => by cases h; exact .int i
  | .str x, _, h => by cases h; exact .str x
  | .list ds, _, h => by
    cases h with
    | lst e ha => exact .lst (s _ _ e) (DvAll.to s ds ha)
  | .tuple ds, _, h => by
    cases h with
    | tup e ha => exact .tup (s _ _ e) (DvAll.to s ds ha)
  | .dict _, _, h => by cases h
theorem DvAll.to (s : Same H H') : ∀ (ds : List PyData) {vs : List V}, DvAll H vs ds → DvAll H' vs ds
  | [], _, h => by cases h; exact .nil
  | d :: ds, _, h => by
    cases h with
    | cons h1 h2 => exact .cons (Dv.to s d h1) (DvAll.to s ds h2)
end
mutual
theorem Dv.dp {K : PySem.W.Frag} : ∀ (d : PyData) {v : V}, Dv H v d → Dp K H v d
  | .none, _, h => by cases h; exact .non
  | .bool b, _, h => by cases h; exact .bl b
  | .int i, _, h => by cases h; exact .int i
  | .str x, _, h => by cases h; exact .str x
  | .list ds, _, h => by
    cases h with
    | lst e ha => exact .lst (SqL.of e) (DvAll.dp ds ha)
  | .tuple ds, _, h => by
    cases h with
    | tup e ha => exact .tup (SqT.of e) (DvAll.dp ds ha)
  | .dict _, _, h => by cases h
theorem DvAll.dp {K : PySem.W.Frag} : ∀ (ds : List PyData) {vs : List V}, DvAll H vs ds → DpAll K H vs ds
  | [], _, h => by cases h; exact .nil
  | d :: ds, _, h => by
    cases h with
    | cons h1 h2 => exact .cons (Dv.dp d h1) (DvAll.dp ds h2)
end
end
mutual
/-- no list is long -/
def narrow : PyData → Bool
  | .list xs | .tuple xs => decide (xs.length ≤ 1000) && narrowAll xs
  | .dict _ => false
  | .none | .bool _ | .int _ | .str _ => true
def narrowAll : List PyData → Bool
  | [] => true
  | x :: xs => narrow x && narrowAll xs
end
theorem DvAll.len {H : Hp} : ∀ {ds : List PyData} {vs : List V}, DvAll H vs ds → vs.length = ds.length
  | [], _, h => by cases h; rfl
  | d :: ds, _, h => by
    cases h with
    | cons h1 h2 => rw [List.length_cons, List.length_cons, DvAll.len h2]
theorem DvAll.get {H : Hp} : ∀ {ds : List PyData} {vs : List V}, DvAll H vs ds → ∀ {i : Nat} {v : V}, vs[i]? = some v → ∃ d, ds[i]? = some d ∧ Dv H v d
  | [], _, h, i, v, e => by cases h; simp at e
  | d :: ds, _, h, i, v, e => by
    cases h with
    | cons h1 h2 =>
      cases i with
      | zero => exact ⟨d, rfl, by cases Option.some.inj e; exact h1⟩
      | succ i => exact h2.get (i := i) (by simpa using e)
mutual
theorem Dv.vl {H : Hp} : ∀ (d : PyData) {v : V} (n : Nat), Dv H v d → d.depth ≤ n → narrow d = true → Vl H [] n v
  | .none, _, n, h, _, _ => by cases h; cases n with | zero => exact rfl | succ n => exact .inl rfl
  | .bool b, _, n, h, _, _ => by cases h; cases n with | zero => exact rfl | succ n => exact .inl rfl
  | .int i, _, n, h, _, _ => by cases h; cases n with | zero => exact rfl | succ n => exact .inl rfl
  | .str x, _, n, h, _, _ => by cases h; cases n with | zero => exact rfl | succ n => exact .inl rfl
  | .list ds, _, n, h, hd, hn => by
    rw [narrow, Bool.and_eq_true] at hn
    rw [PyData.depth] at hd
    cases h with
    | lst e ha =>
      cases n with
      | zero => omega
      | succ n => exact .inr (.inl ⟨_, _, rfl, by simp, e, DvAll.vl ds n ha (by omega) hn.2, by rw [ha.len]; exact of_decide_eq_true hn.1⟩)
  | .tuple ds, _, n, h, hd, hn => by
    rw [narrow, Bool.and_eq_true] at hn
    rw [PyData.depth] at hd
    cases h with
    | tup e ha =>
      cases n with
      | zero => omega
      | succ n => exact .inr (.inr (.inl ⟨_, _, rfl, by simp, e, DvAll.vl ds n ha (by omega) hn.2, by rw [ha.len]; exact of_decide_eq_true hn.1⟩))
  | .dict _, _, _, h, _, _ => by cases h
theorem DvAll.vl {H : Hp} : ∀ (ds : List PyData) {vs : List V} (n : Nat), DvAll H vs ds → PyData.depthAll ds ≤ n → narrowAll ds = true → ∀ v ∈ vs, Vl H [] n v
  | [], _, _, h, _, _ => by
    cases h
    intro v hv
    cases hv
  | d :: ds, _, n, h, hd, hn => by
    rw [narrowAll, Bool.and_eq_true] at hn
    rw [PyData.depthAll] at hd
    cases h with
    | cons h1 h2 =>
      intro v hv
      rcases List.mem_cons.mp hv with rfl | hv
      · exact Dv.vl d n h1 (by omega) hn.1
      · exact DvAll.vl ds n h2 (by omega) hn.2 v hv
end
/-- a value that a question may be asked of: data of a small depth, or an empty dictionary -/
def Val (H : Hp) (v : V) : Prop := (∃ D, Dv H v D ∧ SeqAt.shaped D = true ∧ D.depth ≤ 3 ∧ narrow D = true) ∨ ∃ a, v = .ref a ∧ H a = some (.dT [])
theorem Val.to {H H' : Hp} {v : V} (h : Val H v) (s : Same H H') : Val H' v := by
  rcases h with ⟨D, h1, h2⟩ | ⟨a, rfl, h⟩
  · exact .inl ⟨D, Dv.to s D h1, h2⟩
  · exact .inr ⟨a, rfl, s _ _ h⟩
theorem Val.vl {H : Hp} {v : V} (h : Val H v) : Vl H [] 3 v := by
  rcases h with ⟨D, h1, h2, h3, h4⟩ | ⟨a, rfl, h⟩
  · exact Dv.vl D 3 h1 h3 h4
  · exact .inr (.inr (.inr ⟨a, rfl, by simp, h, by decide⟩))
/-- three rows, as a value -/
def Three (H : Hp) (v : V) (x y z : List Str) : Prop := ∃ t a b c : Addr, v = .ref t ∧ H t = some (.tup [.ref a, .ref b, .ref c]) ∧ H a = some (.tup (x.map V.str)) ∧ H b = some (.tup (y.map V.str)) ∧ H c = some (.tup (z.map V.str))
theorem Three.to {H H' : Hp} {v : V} {x y z : List Str} (h : Three H v x y z) (s : Same H H') : Three H' v x y z := by
  obtain ⟨t, a, b, c, rfl, h1, h2, h3, h4⟩ := h
  exact ⟨t, a, b, c, rfl, s _ _ h1, s _ _ h2, s _ _ h3, s _ _ h4⟩
theorem Three.one {H : Hp} {v : V} {x y z x' y' z' : List Str} (h : Three H v x y z) (h' : Three H v x' y' z') : x = x' ∧ y = y' ∧ z = z' := by
  obtain ⟨t, a, b, c, rfl, h1, h2, h3, h4⟩ := h
  obtain ⟨t', a', b', c', e, k1, k2, k3, k4⟩ := h'
  cases e
  rw [h1] at k1
  cases k1
  rw [h2] at k2
  rw [h3] at k3
  rw [h4] at k4
  exact ⟨str_inj (HO.tup.inj (Option.some.inj k2)), str_inj (HO.tup.inj (Option.some.inj k3)), str_inj (HO.tup.inj (Option.some.inj k4))⟩
/-- all of three rows are among these -/
def ThreeIn (rs : List (List Str)) (H : Hp) (v : V) : Prop := ∃ x ∈ rs, ∃ y ∈ rs, ∃ z ∈ rs, Three H v x y z
/-- three of these rows of which a way gives none of them -/
def WhyV (g : Str → Str → Str → Str) (rs : List (List Str)) (H : Hp) (v : V) : Prop := ∃ x ∈ rs, ∃ y ∈ rs, ∃ z ∈ rs, Three H v x y z ∧ gvn g x y z ∉ rs
theorem WhyV.in_ {g : Str → Str → Str → Str} {rs : List (List Str)} {H : Hp} {v : V} (h : WhyV g rs H v) : ThreeIn rs H v := by
  obtain ⟨x, hx, y, hy, z, hz, h, _⟩ := h
  exact ⟨x, hx, y, hy, z, hz, h⟩
theorem WhyV.iff {g : Str → Str → Str → Str} {rs : List (List Str)} {H : Hp} {v : V} {x y z : List Str} (hx : x ∈ rs) (hy : y ∈ rs) (hz : z ∈ rs) (h : Three H v x y z) : WhyV g rs H v ↔ gvn g x y z ∉ rs := by
  constructor
  · rintro ⟨x', _, y', _, z', _, h', n⟩
    obtain ⟨rfl, rfl, rfl⟩ := h.one h'
    exact n
  · exact fun n => ⟨x, hx, y, hy, z, hz, h, n⟩
theorem ThreeIn.to {rs : List (List Str)} {H H' : Hp} {v : V} (h : ThreeIn rs H v) (s : Same H H') : ThreeIn rs H' v := by
  obtain ⟨x, hx, y, hy, z, hz, h⟩ := h
  exact ⟨x, hx, y, hy, z, hz, h.to s⟩
/-- a row as data, among rows -/
theorem eqv_str_any : ∀ (zs : List Str) (ds : List PyData), PyData.eqvAll (zs.map PyData.str) ds = true → ds = zs.map PyData.str
  | [], [], _ => rfl
  | [], _ :: _, h => by simp [PyData.eqvAll] at h
  | _ :: _, [], h => by simp [PyData.eqvAll] at h
  | z :: zs, d :: ds, h => by
    rw [List.map_cons, PyData.eqvAll, Bool.and_eq_true] at h
    rw [eqv_str_any zs ds h.2]
    cases d with
    | str x =>
      have : (z == x) = true := by simpa [PyData.eqv] using h.1
      rw [eq_of_beq this]
      rfl
    | _ => simp [PyData.eqv] at h
theorem eqv_row_any {r : List Str} {D : PyData} (h : PyData.eqv (rowD r) D = true) : D = rowD r := by
  cases D with
  | tuple ds =>
    have : PyData.eqvAll (r.map PyData.str) ds = true := by simpa [rowD, PyData.eqv] using h
    rw [eqv_str_any r ds this]
    rfl
  | _ => simp [rowD, PyData.eqv] at h
theorem DvAll.strs {H : Hp} : ∀ {zs : List Str} {vs : List V}, DvAll H vs (zs.map PyData.str) → vs = zs.map V.str
  | [], _, h => by cases h; rfl
  | z :: zs, _, h => by
    cases h with
    | cons h1 h2 =>
      cases h1
      rw [DvAll.strs h2]
      rfl
theorem Dv.row {H : Hp} {v : V} {r : List Str} (h : Dv H v (rowD r)) : ∃ a, v = .ref a ∧ H a = some (.tup (r.map V.str)) := by
  cases h with
  | tup e ha => exact ⟨_, rfl, by rw [e, DvAll.strs ha]⟩
/-- whether data is one of these rows -/
def inRows (rs : List (List Str)) (D : PyData) : Bool := (rs.map rowD).any fun z => PyData.eqv z D
theorem inRows_iff {rs : List (List Str)} {D : PyData} : inRows rs D = true ↔ ∃ r ∈ rs, D = rowD r := by
  unfold inRows
  rw [List.any_eq_true]
  constructor
  · rintro ⟨z, hz, e⟩
    obtain ⟨r, hr, rfl⟩ := List.mem_map.mp hz
    exact ⟨r, hr, eqv_row_any e⟩
  · rintro ⟨r, hr, rfl⟩
    refine ⟨rowD r, List.mem_map.mpr ⟨r, hr, rfl⟩, ?_⟩
    have := eqv_strs r r
    simpa [rowD, PyData.eqv] using this
/-- what kind a value is of: is it a tuple -/
def isTup : PyData → Bool
  | .tuple _ => true
  | _ => false
theorem Dv.kit {K : PySem.W.Frag} {H : Hp} {v : V} {D : PyData} (h : Dv H v D) : ∃ t : Value, (∀ H', Same H H' → TyX K H' v t) ∧ PySem.W.kitOne K t (.type "tuple") = some (isTup D) := by
  cases h with
  | non => exact ⟨_, fun _ _ => .base .non, kit_ty (show kitB _ "tuple" = some false by decide +kernel)⟩
  | bl b => exact ⟨_, fun _ _ => .base (.bl b), kit_ty (show kitB _ "tuple" = some false by decide +kernel)⟩
  | int i => exact ⟨_, fun _ _ => .base (.int i), kit_ty (show kitB _ "tuple" = some false by decide +kernel)⟩
  | str x => exact ⟨_, fun _ _ => .base (.str x), kit_ty (show kitB _ "tuple" = some false by decide +kernel)⟩
  | lst e ha => exact ⟨_, fun _ s => .base (.lst (s _ _ e)), kit_ty (show kitB _ "tuple" = some false by decide +kernel)⟩
  | tup e ha => exact ⟨_, fun _ s => .base (.tup (s _ _ e)), kit_ty (show kitB _ "tuple" = some true by decide +kernel)⟩
/-- a value is no tuple, a tuple of another length, or a tuple of three -/
theorem Val.cases3 {K : PySem.W.Frag} {H : Hp} {v : V} (h : Val H v) :
    ((∃ t : Value, (∀ H', Same H H' → TyX K H' v t) ∧ PySem.W.kitOne K t (.type "tuple") = some false) ∧ ∀ rs, ¬ ThreeIn rs H v) ∨
    (∃ (a : Addr) (xs : List V), v = .ref a ∧ H a = some (.tup xs) ∧ xs.length ≤ 1000 ∧ xs.length ≠ 3 ∧ ∀ rs, ¬ ThreeIn rs H v) ∨
    ∃ (a : Addr) (x y z : V) (d e f : PyData), v = .ref a ∧ H a = some (.tup [x, y, z]) ∧ Dv H x d ∧ Dv H y e ∧ Dv H z f ∧ SeqAt.shaped d = true ∧ SeqAt.shaped e = true ∧ SeqAt.shaped f = true := by
  have no : ∀ {D : PyData}, Dv H v D → (∀ ds, D ≠ .tuple ds) → ∀ rs, ¬ ThreeIn rs H v := fun {D} hD n rs ⟨x, _, y, _, z, _, t, a, b, c, e, h1, _⟩ => by
    subst e
    cases hD with
    | lst e _ =>
      rw [e] at h1
      cases h1
    | tup e _ => exact n _ rfl
  rcases h with ⟨D, hD, h2, h3, h4⟩ | ⟨a, rfl, h⟩
  · obtain ⟨t, k1, k2⟩ := Dv.kit (K := K) hD
    cases D with
    | none => exact .inl ⟨⟨t, k1, k2⟩, no hD fun _ => by simp⟩
    | bool b => exact .inl ⟨⟨t, k1, k2⟩, no hD fun _ => by simp⟩
    | int b => exact .inl ⟨⟨t, k1, k2⟩, no hD fun _ => by simp⟩
    | str b => exact .inl ⟨⟨t, k1, k2⟩, no hD fun _ => by simp⟩
    | list b => exact .inl ⟨⟨t, k1, k2⟩, no hD fun _ => by simp⟩
    | dict b => cases hD
    | tuple ds =>
      cases hD with
      | @tup a xs _ e ha =>
        by_cases c : xs.length = 3
        · rw [ha.len] at c
          match ds, c, ha, h2 with
          | [d, e', f], _, .cons (v := x) q1 (.cons (v := y) q2 (.cons (v := z) q3 .nil)), h2 =>
            have lay := SeqAt.canLay_of_shaped h2
            have dep := SeqAt.depth_of_shaped h2
            simp only [PyData.canLay0, PyData.canLayAll0, Bool.and_eq_true, Bool.and_true] at lay
            simp only [PyData.depth, PyData.depthAll] at dep
            have mk : ∀ {u : PyData}, u.canLay0 = true → u.depth ≤ 64 → SeqAt.shaped u = true := fun {u} l1 l2 => by
              unfold SeqAt.shaped
              rw [l1, decide_eq_true l2] <;> rfl
            exact .inr (.inr ⟨a, x, y, z, d, e', f, rfl, e, q1, q2, q3, mk lay.1 (by omega), mk lay.2.1 (by omega), mk lay.2.2 (by omega)⟩)
        · refine .inr (.inl ⟨a, xs, rfl, e, ?_, c, fun rs ⟨x, _, y, _, z, _, t, a', b', c', e1, h1, _⟩ => ?_⟩)
          · rw [narrow, Bool.and_eq_true] at h4
            rw [ha.len]
            exact of_decide_eq_true h4.1
          · cases e1
            rw [e] at h1
            cases h1
            exact c rfl
  · refine .inl ⟨⟨_, fun _ s => .base (.dT (s _ _ h)), kit_ty (by decide +kernel)⟩, fun rs ⟨x, _, y, _, z, _, t, a', b', c', e1, h1, _⟩ => ?_⟩
    cases e1
    rw [h] at h1
    cases h1
/-- of three data, each is one of these rows: three rows -/
theorem three_iff {H : Hp} {rs : List (List Str)} {a : Addr} {x y z : V} {d e f : PyData} (h : H a = some (.tup [x, y, z])) (h1 : Dv H x d) (h2 : Dv H y e) (h3 : Dv H z f) :
    (inRows rs d && (inRows rs e && (inRows rs f && true))) = true ↔ ThreeIn rs H (.ref a) := by
  rw [Bool.and_true, Bool.and_eq_true, Bool.and_eq_true, inRows_iff, inRows_iff, inRows_iff]
  constructor
  · rintro ⟨⟨p, hp, rfl⟩, ⟨q, hq, rfl⟩, ⟨r, hr, rfl⟩⟩
    obtain ⟨b1, rfl, e1⟩ := h1.row
    obtain ⟨b2, rfl, e2⟩ := h2.row
    obtain ⟨b3, rfl, e3⟩ := h3.row
    exact ⟨p, hp, q, hq, r, hr, a, b1, b2, b3, rfl, h, e1, e2, e3⟩
  · rintro ⟨p, hp, q, hq, r, hr, t, b1, b2, b3, e0, k0, e1, e2, e3⟩
    cases e0
    rw [h] at k0
    cases k0
    have back : ∀ {b : Addr} {D : PyData} {r : List Str}, Dv H (.ref b) D → H b = some (.tup (r.map V.str)) → D = rowD r := fun {b D r} hD hb => by
      cases hD with
      | lst e _ =>
        rw [e] at hb
        cases hb
      | tup e ha =>
        rw [e] at hb
        cases hb
        have go : ∀ {zs : List Str} {ds : List PyData}, DvAll H (zs.map V.str) ds → ds = zs.map PyData.str := fun {zs} => by
          induction zs with
          | nil =>
            intro ds h
            cases h
            rfl
          | cons z zs ih =>
            intro ds h
            cases h with
            | cons q1 q2 =>
              cases q1
              rw [ih q2]
              rfl
        rw [go ha]
        rfl
    exact ⟨⟨p, hp, back h1 e1⟩, ⟨q, hq, back h2 e2⟩, ⟨r, hr, back h3 e3⟩⟩
end Yt

set_option Elab.async false
set_option linter.all false
set_option maxRecDepth 100000
set_option maxHeartbeats 2000000
namespace Yt
open PySem PySem.Spec PyProof.Rows L2
abbrev sLBroken : Stmt := top 61
/-- what is told of three rows that a way breaks, or of rows that it keeps -/
def BrokenEnd (g : Str → Str → Str → Str) (M : List (Addr × List Str)) (H : Hp) (Q : VK) : Prop :=
  (ClosedG g (M.map (·.2)) → ∀ H', Same H H' → Q .non H') ∧
  ∀ x ∈ M, ∀ y ∈ M, ∀ z ∈ M, gvn g x.2 y.2 z.2 ∉ M.map (·.2) → ∀ (T : Addr) (H' : Hp), H T = none → H' T = some (.tup [.ref x.1, .ref y.1, .ref z.1]) → Same H H' → Q (.ref T) H'
def spLBroken : Sp := fun vs H Q _ => ∃ (dw l : Addr) (ms : List Str) (g : Str → Str → Str → Str) (n : Nat) (M : List (Addr × List Str)), vs = [.ref dw, .ref l] ∧ WayAt H dw ms g ∧ RowsAt H l M ∧ RowsOk ms n (M.map (·.2)) ∧ n ≤ 4 ∧ BrokenEnd g M H Q
section
variable {P : Program} {w : World} {K : PySem.W.Frag} {mg : Str → Option Value} {base : Heap} {f : Addr} {fd : FuncData}
theorem scLBroken : FnScope ["_law_way", "_law_rows", "_law_one", "_law_two", "_law_three"] ["_law_way", "_law_rows"] (defScope sLBroken) := ⟨rfl, rfl, rfl, by decide +kernel, rfl, by decide +kernel, by decide +kernel⟩
theorem ok_lbroken {fG : Addr} {dG : FuncData} (F : FnP K "_law_broken" sLBroken f fd)
    (GG : FnOk P w K mg base CX0 1 fG dG ["_law_way", "_law_rows"] spLGiven) (bG : Binds K dG ["_law_way", "_law_rows"] []) (kG : PySem.W.keepIn K (.ref fG) = true) (gG : mg "_law_given" = some (.ref fG)) :
    FnOk P w K mg base CX0 2 f fd ["_law_way", "_law_rows"] spLBroken := by
  refine F.ok scLBroken (fun vs H Q E h => ?_) (fun cdv A outer s H vs Q E hr h => ?_)
  · obtain ⟨dw, l, ms, g, n, M, rfl, _⟩ := h
    rfl
  · obtain ⟨dw, l, ms, g, n, M, rfl, hw, hl, ok, n4, kN, kS⟩ := h
    have hu := hu_of hr
    refine ⟨_, PSs.nox (pss_cons (ps_for PassesOwn.never rfl (pi_list (pv 1)) (pg_name (i := 2) scLBroken.nd rfl (Or.inl rfl))
      (pss_one (ps_for PassesOwn.never rfl (pi_list (pv 1)) (pg_name (i := 3) scLBroken.nd rfl (Or.inl rfl))
      (pss_one (ps_for PassesOwn.never rfl (pi_list (pv 1)) (pg_name (i := 4) scLBroken.nd rfl (Or.inl rfl))
        (pss_one (ps_if (pt_cmpR (op_notin_rows hu) (pe_call GG (hr.mono (by decide)) rfl gG kG bG .nil pass0 (pa_cons (pv 0) (pa_cons (pe_tup (pa_cons (pv 2) (pa_cons (pv 3) (pa_cons (pv 4) pa_nil)))) pa_nil))) (pv 1) (by rfl))
          (pss_one (ps_ret (pe_tup (pa_cons (pv 2) (pa_cons (pv 3) (pa_cons (pv 4) pa_nil)))))) pss_nil)))))))
      (pss_one (ps_ret pe_non))), ?_⟩
    have l3 : 3 ≤ sizeLine := by decide
    have at_ : ∀ {i : Nat} {v : V}, (M.map fun e => V.ref e.1)[i]? = some v → ∃ u, M[i]? = some u ∧ u ∈ M ∧ v = .ref u.1 := fun {i v} e => by
      rw [List.getElem?_map] at e
      obtain ⟨u, hu, rfl⟩ := Option.map_eq_some_iff.mp e
      exact ⟨u, hu, List.mem_of_getElem? hu, rfl⟩
    have lM : (M.map fun e => V.ref e.1).length = M.length := List.length_map _
    have len : ∀ {u : Addr × List Str}, u ∈ M → u.2.length = n ∧ ∀ z ∈ u.2, z ∈ ms := fun hu => ok _ (List.mem_map.mpr ⟨_, hu, rfl⟩)
    refine ⟨_, rfl, l, rfl, ⟨_, SqL.of hl.1⟩, for_list (K := K) (a := l) (xs := M.map fun e => V.ref e.1) (fun i σ Hb => ∃ u2 u3 u4, σ = [some (.ref dw), some (.ref l), u2, u3, u4] ∧ Same H Hb ∧ ∀ x ∈ M.take i, ∀ y ∈ M, ∀ z ∈ M, gvn g x.2 y.2 z.2 ∈ M.map (·.2))
      ⟨_, _, _, rfl, (fun _ _ e => e), fun x hx => by simp at hx⟩ (fun i σ Hb _ ⟨_, _, _, _, s, _⟩ => SqL.of (s _ _ hl.1)) ?_ ?_⟩
    · rintro i v σ Hb hi ⟨u2, u3, u4, rfl, sb, hb⟩
      obtain ⟨x, ex, xm, rfl⟩ := at_ hi
      refine ⟨_, rfl, l, rfl, ⟨_, SqL.of (sb _ _ hl.1)⟩, for_list (K := K) (a := l) (xs := M.map fun e => V.ref e.1) (fun j σ Hc => ∃ u3 u4, σ = [some (.ref dw), some (.ref l), some (.ref x.1), u3, u4] ∧ Same H Hc ∧ ∀ y ∈ M.take j, ∀ z ∈ M, gvn g x.2 y.2 z.2 ∈ M.map (·.2))
        ⟨_, _, rfl, sb, fun x hx => by simp at hx⟩ (fun i σ Hb _ ⟨_, _, _, s, _⟩ => SqL.of (s _ _ hl.1)) ?_ ?_⟩
      · rintro j v σ Hc hj ⟨u3, u4, rfl, sc, hc⟩
        obtain ⟨y, ey, ym, rfl⟩ := at_ hj
        refine ⟨_, rfl, l, rfl, ⟨_, SqL.of (sc _ _ hl.1)⟩, for_list (K := K) (a := l) (xs := M.map fun e => V.ref e.1) (fun k σ Hd => ∃ u4, σ = [some (.ref dw), some (.ref l), some (.ref x.1), some (.ref y.1), u4] ∧ Same H Hd ∧ ∀ z ∈ M.take k, gvn g x.2 y.2 z.2 ∈ M.map (·.2))
          ⟨_, rfl, sc, fun x hx => by simp at hx⟩ (fun i σ Hb _ ⟨_, _, s, _⟩ => SqL.of (s _ _ hl.1)) ?_ ?_⟩
        · rintro k v σ Hd hk ⟨u4, rfl, sd, hd⟩
          obtain ⟨z, ez, zm, rfl⟩ := at_ hk
          refine ⟨_, rfl, _, rfl, _, rfl, _, rfl, l3, fun t nt => ?_⟩
          have st := same_new (o := .tup [V.ref x.1, V.ref y.1, V.ref z.1]) nt
          have s1 : Same H (upd Hd t (.tup [V.ref x.1, V.ref y.1, V.ref z.1])) := fun b o e => st _ _ (sd _ _ e)
          have h1 := upd_same (H := Hd) (a := t) (o := .tup [V.ref x.1, V.ref y.1, V.ref z.1])
          generalize upd Hd t (.tup [V.ref x.1, V.ref y.1, V.ref z.1]) = H1 at s1 h1 ⊢
          refine ⟨dw, t, x.1, y.1, z.1, ms, g, n, x.2, y.2, z.2, rfl, hw.to s1, h1, s1 _ _ (hl.2 x xm), s1 _ _ (hl.2 y ym), s1 _ _ (hl.2 z zm), (len xm).1, (len ym).1, (len zm).1, n4, (len xm).2, (len ym).2, (len zm).2, fun T H2 nT hT s2 => ?_⟩
          have s02 : Same H H2 := fun b o e => s2 _ _ (s1 _ _ e)
          refine ⟨_, rfl, T, l, _, M, rfl, rfl, hT, s02 _ _ hl.1, fun e he => s02 _ _ (hl.2 e he), ?_⟩
          by_cases c : gvn g x.2 y.2 z.2 ∈ M.map (·.2)
          · rw [decide_eq_true c]
            refine ⟨_, rfl, _, rfl, s02, fun z' hz => ?_⟩
            rw [List.take_add_one, ez] at hz
            rcases List.mem_append.mp hz with hz | hz
            · exact hd z' hz
            · obtain rfl : z' = z := by simpa using hz
              exact c
          · rw [decide_eq_false c]
            exact ⟨_, rfl, _, rfl, _, rfl, _, rfl, l3, fun T nT => kS x xm y ym z zm c T _ (none_back s02 nT) upd_same fun b o e => same_new nT _ _ (s02 _ _ e)⟩
        · rintro σ Hd ⟨u4, rfl, sd, hd⟩
          rw [lM, List.take_length] at hd
          refine ⟨_, _, rfl, sd, fun y' hy => ?_⟩
          rw [List.take_add_one, ey] at hy
          rcases List.mem_append.mp hy with hy | hy
          · exact hc y' hy
          · obtain rfl : y' = y := by simpa using hy
            exact hd
      · rintro σ Hc ⟨u3, u4, rfl, sc, hc⟩
        rw [lM, List.take_length] at hc
        refine ⟨_, _, _, rfl, sc, fun x' hx => ?_⟩
        rw [List.take_add_one, ex] at hx
        rcases List.mem_append.mp hx with hx | hx
        · exact hb x' hx
        · obtain rfl : x' = x := by simpa using hx
          exact hc
    · rintro σ Hb ⟨u2, u3, u4, rfl, sb, hb⟩
      rw [lM, List.take_length] at hb
      refine kN (fun x hx y hy z hz => ?_) _ sb
      obtain ⟨a, ha, rfl⟩ := List.mem_map.mp hx
      obtain ⟨b, hb', rfl⟩ := List.mem_map.mp hy
      obtain ⟨c, hc, rfl⟩ := List.mem_map.mp hz
      exact hb a ha b hb' c hc
end
end Yt

set_option Elab.async false
set_option linter.all false
set_option maxRecDepth 100000
set_option maxHeartbeats 2000000
namespace Yt
open PySem PySem.Spec PyProof.Rows L2
section
variable {P : Program} {w : World} {A : Around} {E : Value → Shared → Prop} {s : Shared} {a : Addr} {L : List (Addr × List Key)} {es : Array (Int × Value)} {ep : Nat} {t : SetTable}
theorem look_from (R : TupSet P w s.heap a L es ep t) {x : Addr} {k : List Key} (hx : IsTup P w s.heap k x) (hu : A.units < cLine) {n : Nat} (nf : n < 10 * SetTable.turns t.mask)
    (out : way t.mask (hashT P w k) n ∉ t.place.toList) (full : ∀ c, c < n → way t.mask (hashT P w k) c ∈ t.place.toList) {Q : SetFound → Shared → Prop}
    (yes : k ∈ L.map (·.2) → ∀ i, Q (.there (some i)) s) (no : k ∉ L.map (·.2) → Q (.free (way t.mask (hashT P w k) n) false) s) :
    ∀ (fuel c : Nat) (from_ : Option SetTable.Probe), from_.getD (t.probeStart (hashT P w k)) = nth t.mask (runAt t.mask (SetTable.bits (hashT P w k) % (t.mask + 1)) (SetTable.bits (hashT P w k))) c → c ≤ n → n - c < fuel →
      (∀ (i : Nat) (e : Addr × List Key), L[i]? = some e → e.2 = k → ∃ d, c ≤ d ∧ d < n ∧ t.place.toList[i]? = some (way t.mask (hashT P w k) d)) →
      wpAny (model P w) A (setSearchFrom a (.ref x) (hashT P w k) false fuel from_) Q E s
  | 0, c, _, _, _, lt, _ => absurd lt (Nat.not_lt_zero _)
  | fuel + 1, c, from_, ef, cn, lt, left => by
    obtain ⟨ob, hob, hex, hdat⟩ := R.there
    rw [setSearchFrom_succ]
    refine wpAny_bind (wpAny_setState_of hob hdat R.fits ?_)
    dsimp only
    refine wp_if_neg R.stands ?_
    try refine wpAny_bind (wpAny_pure ?_)
    generalize ep0 : runAt t.mask (SetTable.bits (hashT P w k) % (t.mask + 1)) (SetTable.bits (hashT P w k)) = p0 at ef
    have way_of_ : ∀ d, way t.mask (hashT P w k) d = (nth t.mask p0 d).j := fun d => by rw [← ep0]
    have later : ∀ d, nth t.mask (nth t.mask p0 c) d = nth t.mask p0 (c + d) := fun d => (nth_add t.mask c p0 d).symm
    have dm0 : p0.dummy = none := by rw [← ep0] <;> rfl
    have spec := go_spec t R.seats.up R.seats.none (fun i => (es[i]?.map (·.1)).getD 0) (hashT P w k) (10 * SetTable.turns t.mask) (n - c) _ (no_dummy t.mask c p0 dm0) (by omega)
      (fun d hd => by rw [later, ← way_of_]; exact full (c + d) (by omega)) (by rw [later, ← way_of_, show c + (n - c) = n by omega]; exact out)
    have hash_of : ∀ {i : Nat} {e : Addr × List Key}, L[i]? = some e → (fun i => (es[i]?.map (·.1)).getD 0) i = hashT P w e.2 := fun {i e} q => by
      show (es[i]?.map (·.1)).getD 0 = _
      rw [R.entry q]
      rfl
    rcases spec with ⟨d, i, dn, hi, _, before, ans⟩ | ⟨before, ans⟩
    · rw [later, later] at ans
      rw [later, ← way_of_] at hi
      have ans' : t.probe (fun i => (es[i]?.map (·.1)).getD 0) (hashT P w k) (from_.getD (t.probeStart (hashT P w k))) = some (.candidate (nth t.mask p0 (c + d)).j i (nth t.mask p0 (c + (d + 1)))) := by
        rw [ef]
        exact ans
      rw [ans']
      dsimp only
      have il : i < L.length := by
        rw [← R.places]
        exact (List.getElem?_eq_some_iff.mp hi).1
      obtain ⟨e, he⟩ : ∃ e, L[i]? = some e := ⟨_, List.getElem?_eq_getElem il⟩
      have hm := List.mem_of_getElem? he
      have seat : t.slot (nth t.mask p0 (c + d)).j = .live i := slot_live R.seats.up (by rw [← way_of_]; exact hi)
      have tail : wpAny (model P w) A (searchRest a (.ref x) (hashT P w k) false fuel es t (nth t.mask p0 (c + d)).j i (nth t.mask p0 (c + (d + 1)))) Q E s := by
        unfold searchRest
        rw [R.entry he]
        dsimp only
        refine wpAny_bind (wpAny_holding (wpAny_eqBool_tuple hu (R.tups e hm) hx ?_))
        refine wpAny_bind (wpAny_setState_of hob hdat R.fits ?_)
        dsimp only
        by_cases same : e.2 = k
        · refine wp_if_neg (by simp) ?_
          try refine wpAny_bind (wpAny_pure ?_)
          rw [sameMem]
          dsimp only
          simp only [if_true, seat, R.entry he]
          refine wpAny_bind (wpAny_isSame_ref_self (wpAny_bind (wpAny_pure ?_)))
          simp only [if_true]
          refine wp_if_pos (by simp [same]) ?_
          exact wpAny_pure (yes (List.mem_map.mpr ⟨e, hm, same⟩) _)
        · refine wp_if_neg (by simp [same]) ?_
          try refine wpAny_bind (wpAny_pure ?_)
          rw [sameMem]
          dsimp only
          simp only [if_true, seat, R.entry he]
          refine wpAny_bind (wpAny_isSame_ref_self (wpAny_bind (wpAny_pure ?_)))
          simp only [if_true]
          refine wp_if_neg (by simp [same]) ?_
          refine look_from R hx hu nf out full yes no fuel (c + (d + 1)) _ (by rw [ep0] <;> rfl) (by omega) (by omega) fun i1 e1 h1 k1 => ?_
          obtain ⟨d1, a1, a2, a3⟩ := left i1 e1 h1 k1
          refine ⟨d1, ?_, a2, a3⟩
          rcases Nat.lt_trichotomy d1 (c + d) with z | z | z
          · refine absurd ?_ (before (d1 - c) i1 (by omega) (by rw [later, ← way_of_, show c + (d1 - c) = d1 by omega]; exact a3))
            rw [← k1]
            exact hash_of h1
          · have s1 := slot_live R.seats.up a3
            rw [z, way_of_, seat] at s1
            injection s1 with s1
            rw [← s1, he] at h1
            exact absurd ((congrArg Prod.snd (Option.some.inj h1)).trans k1) same
          · omega
      by_cases hl : t.led = true
      · refine wp_if_neg (by simp [hl]) ?_
        try refine wpAny_bind (wpAny_pure ?_)
        exact tail
      · refine wp_if_pos (by simp [hl]) ?_
        refine wpAny_bind (tup_unseen hx (fun y hy => ?_) ?_)
        · obtain ⟨r, hr, er⟩ := List.mem_map.mp hy
          have hr : r ∈ es ∧ r.1 = hashT P w k := by simpa using hr
          have hr1 : r ∈ es.toList := by simpa using hr.1
          rw [R.rows, rowsT] at hr1
          obtain ⟨e1, he1, e1r⟩ := List.mem_map.mp hr1
          exact ⟨e1.2, e1.1, by rw [← er, ← e1r], R.tups e1 he1⟩
        · refine wp_if_neg (by decide) ?_
          try refine wpAny_bind (wpAny_pure ?_)
          exact tail
    · rw [later, show c + (n - c) = n by omega, ← way_of_] at ans
      have ans' : t.probe (fun i => (es[i]?.map (·.1)).getD 0) (hashT P w k) (from_.getD (t.probeStart (hashT P w k))) = some (.empty (way t.mask (hashT P w k) n) none) := by
        rw [ef]
        exact ans
      rw [ans']
      dsimp only
      refine wpAny_pure (no fun hm => ?_)
      obtain ⟨e, he, ek⟩ := List.mem_map.mp hm
      obtain ⟨i, hi⟩ := List.mem_iff_getElem?.mp he
      obtain ⟨d, a1, a2, a3⟩ := left i e hi ek
      refine before (d - c) i (by omega) (by rw [later, ← way_of_, show c + (d - c) = d by omega]; exact a3) ?_
      rw [← ek]
      exact hash_of hi
theorem look_tup (R : TupSet P w s.heap a L es ep t) {x : Addr} {k : List Key} (hx : IsTup P w s.heap k x) (hu : A.units < cLine) {Q : SetFound → Shared → Prop} (yes : k ∈ L.map (·.2) → ∀ i, Q (.there (some i)) s)
    (no : ∀ n, k ∉ L.map (·.2) → way t.mask (hashT P w k) n ∉ t.place.toList → (∀ c, c < n → way t.mask (hashT P w k) c ∈ t.place.toList) → Q (.free (way t.mask (hashT P w k) n) false) s) :
    wpAny (model P w) A (setSearch a (.ref x) (hashT P w k) false) Q E s := by
  have room := R.room
  obtain ⟨n, nf, out, full⟩ := R.seats.free (by rw [List.length_map]; omega) (hashT P w k)
  have small : n < 100000 := by
    unfold SetTable.turns at nf
    rcases R.mask with e | e | e | e <;> omega
  unfold setSearch
  refine look_from R hx hu nf out full yes (fun z => no n z out full) 100000 0 none rfl (Nat.zero_le n) (by omega) fun i e he ek => ?_
  have hh : (L.map fun e => hashT P w e.2)[i]? = some (hashT P w k) := by rw [List.getElem?_map, he, ← ek] <;> rfl
  obtain ⟨j, hj⟩ : ∃ j, t.place.toList[i]? = some j := ⟨_, List.getElem?_eq_getElem (by rw [R.places]; exact (List.getElem?_eq_some_iff.mp he).1)⟩
  obtain ⟨c, cn, ec⟩ := R.seats.ahead out hh hj
  exact ⟨c, Nat.zero_le c, cn, by rw [hj, ec]⟩
end
end Yt

set_option Elab.async false
set_option linter.all false
set_option maxRecDepth 100000
set_option maxHeartbeats 2000000
namespace Yt
open PySem PySem.Spec PyProof.Rows L2
/-- row not in a set of rows -/
def rNInT (P : Program) (w : World) : R2 := fun x y H Q => ∃ (b a : Addr) (k : List Key) (L : List (Addr × List Key)) (c : Bool), x = .ref b ∧ y = .ref a ∧ H b = some (.tup (k.map kV)) ∧ H a = some (SetTO' P w a L) ∧ Stand H L ∧ (c = true ↔ k ∈ List.map Prod.snd L) ∧ Q (.bl (!c)) H
theorem op_notin_setT {X : Cx} (hu : X.A.units + 3 < cLine) : OpR X (compareOp .NotIn) (rNInT X.prog X.w) := by
  intro pins s σ H x y v u Q I rx ry h
  obtain ⟨b, a, k, L, c, rfl, rfl, hb, ha, st, hc, q⟩ := h
  cases rx
  cases ry
  have R0 : SetTAt X.prog X.w s.heap a L := (I.hok a _ ha).1
  obtain ⟨es, ep, t, R⟩ := setT_with R0 (stand_tups I.hok st)
  have hT : s.TypeIs (.ref a) "set" := by
    obtain ⟨o, ho, hx, _⟩ := R.there
    exact ⟨o, ho, hx.1⟩
  have hk := stand_tups I.hok (L := [(b, k)]) (fun e he => by rw [List.mem_singleton.mp he]; exact hb) _ (List.mem_singleton.mpr rfl)
  show wpAny _ _ (do return Value.bool (!(← contains (.ref a) (.ref b)))) _ _ s
  refine wpAny_bind ?_
  unfold contains
  try with_reducible refine wpAny_holding ?_
  refine wpAny_bind (wpAny_specialOf hT F.slot_set_contains.lookup ?_)
  show wpAny _ _ (if (some (Value.builtin "set.__contains__") == some Value.none) = true then _ else _) _ _ s
  rw [if_neg (by rw [beq_builtin_none]; exact Bool.false_ne_true)]
  refine wpAny_bind (wpAny_callSpecialUnlessNone?_slot (name := Str.ofString "__contains__") hT F.slot_set_contains
    (wpAny_call_entry F.slot_set_contains hT entry_set_contains ?_ (F.args_set_contains_2 _ _)))
  unfold Builtin.«frozenset.__contains__» Builtin.Frozenset.oneOther
  simp only [List.isEmpty_nil, bind_assoc]
  unfold Builtin.Frozenset.addrOf Builtin.Frozenset.withSetAsKey setContains
  refine wpAny_bind (wpAny_pure ?_)
  try dsimp only
  refine wpAny_bind (wpAny_pure ?_)
  try dsimp only
  refine wpAny_bind (wpAny_tryCatch ?_)
  refine wpAny_holding ?_
  refine wpAny_bind (wpAny_pyHash_tuple (units_in1 (by omega)) hk ?_)
  unfold setFind setFindIn
  obtain ⟨o, ho, hex, hd⟩ := R.there
  refine wpAny_bind (wpAny_bind (wpAny_setState_of ho hd R.fits ?_))
  dsimp only
  refine wp_if_neg (by simp [byScan, Value.scannable]) ?_
  try refine wpAny_bind (wpAny_pure ?_)
  refine wpAny_bind (look_tup (s := { s with toks := s.toks + (k.length + 1) }) R hk (units_in1 (by omega)) (fun hm i => ?_) fun n hm _ _ => ?_)
  · obtain rfl : c = true := hc.mpr hm
    exact wpAny_pure (wpAny_pure (wpAny_pure ⟨_, rfl, wpAny_truthy_bool (wpAny_pure ⟨.bl false, H, I.tok _, rfl, q⟩)⟩))
  · obtain rfl : c = false := by
      cases c with
      | false => rfl
      | true => exact absurd (hc.mp rfl) hm
    exact wpAny_pure (wpAny_pure (wpAny_pure ⟨_, rfl, wpAny_truthy_bool (wpAny_pure ⟨.bl true, H, I.tok _, rfl, q⟩)⟩))
end Yt

set_option Elab.async false
set_option linter.all false
set_option maxRecDepth 100000
set_option maxHeartbeats 2000000
namespace Yt
open PySem PySem.Spec PyProof.Rows L2
abbrev sGift : Stmt := top 33
section
variable {P : Program} {w : World} {K : PySem.W.Frag} {mg : Str → Option Value} {base : Heap} {f : Addr} {fd : FuncData}
theorem scGift : FnScope ["way", "first", "second", "third", "three"] ["way", "first", "second", "third"] (defScope sGift) := ⟨rfl, rfl, rfl, by decide +kernel, rfl, by decide +kernel, by decide +kernel⟩
def spGift8 : Sp := fun vs H Q _ => ∃ (d a b c : Addr) (ms : List Str) (g : Str → Str → Str → Str) (n : Nat) (xs ys zs : List Str), vs = [.ref d, .ref a, .ref b, .ref c] ∧ WayAt H d ms g ∧ H a = some (.tup (xs.map V.str)) ∧ H b = some (.tup (ys.map V.str)) ∧ H c = some (.tup (zs.map V.str)) ∧ xs.length = n ∧ ys.length = n ∧ zs.length = n ∧ n ≤ 4 ∧
  (∀ z ∈ xs, z ∈ ms) ∧ (∀ z ∈ ys, z ∈ ms) ∧ (∀ z ∈ zs, z ∈ ms) ∧ ∀ (T : Addr) (H' : Hp), H T = none → H' T = some (.tup ((gvn g xs ys zs).map V.str)) → Same H H' → Q (.ref T) H'
theorem ok_gift8 (F : FnP K "_gift" sGift f fd) (T6 : Nm6 mg) : FnOk P w K mg base CX0 1 f fd ["way", "first", "second", "third"] spGift8 := by
  refine F.ok scGift (fun vs H Q E h => ?_) (fun cdv A outer s H vs Q E hr h => ?_)
  · obtain ⟨d, a, b, c, ms, g, n, xs, ys, zs, rfl, _⟩ := h
    rfl
  · obtain ⟨d, a, b, c, ms, g, n, xs, ys, zs, rfl, ⟨m, hd, hv⟩, ha, hb, hc, e1, e2, e3, n4, o1, o2, o3, k⟩ := h
    have hu := hu_of hr
    refine ⟨_, PSs.nox (pss_one (ps_ret (pe_callTy call_tuple_of (by rfl) T6.tuple (by decide +kernel) (pa_cons (pe_lc (own := [("three", 4)]) (g := gName 4) (tt := tYes) (te := tDGet (tVar 0) (tVar 4)) rfl scGift.nd (pi_zip3 (by rfl) T6.zip (pa_cons (pv 1) (pa_cons (pv 2) (pa_cons (pv 3) pa_nil)))) (blkOk_by (own := [("three", 4)]) (N := ["way", "first", "second", "third", "three"]) (sc := defScope sGift) (by decide +kernel))
        (fun _ _ _ _ _ => pg_name (i := 4) scGift.nd rfl (Or.inl rfl)) (fun _ _ _ _ _ => pts_nil) (fun _ _ _ _ _ => pe_dget hu (pv 0) (pv 4) (fun _ _ => rfl))) pa_nil)))), ?_⟩
    refine ⟨_, rfl, _, rfl, _, rfl, a, b, c, _, _, _, rfl, SqT.of ha, SqT.of hb, SqT.of hc, fun D hD => ?_⟩
    refine lc_it (walk_zip3 (xs := xs.map V.str) (ys := ys.map V.str) (ws := zs.map V.str) (n := n) (by rw [List.length_map, e1]) (by rw [List.length_map, e2]) (by rw [List.length_map, e3])) (fun i Hx => Hx D = some (.lst ((gvn g (xs.take i) (ys.take i) (zs.take i)).map V.str)) ∧ Same H Hx) ?_ ?_ ?_ ?_
    · exact ⟨upd_same, same_new hD⟩
    · exact fun i Hx _ q => ⟨SqT.of (q.2 _ _ ha), SqT.of (q.2 _ _ hb), SqT.of (q.2 _ _ hc)⟩
    · rintro i v Hx H4 hi ⟨q1, q2⟩ ⟨t, x', y', z', rfl, nt, rfl, ex', ey', ez'⟩
      obtain ⟨x, ex, rfl⟩ : ∃ x, xs[i]? = some x ∧ V.str x = x' := by
        rw [List.getElem?_map] at ex'
        exact Option.map_eq_some_iff.mp ex'
      obtain ⟨y, ey, rfl⟩ : ∃ x, ys[i]? = some x ∧ V.str x = y' := by
        rw [List.getElem?_map] at ey'
        exact Option.map_eq_some_iff.mp ey'
      obtain ⟨z, ez, rfl⟩ : ∃ x, zs[i]? = some x ∧ V.str x = z' := by
        rw [List.getElem?_map] at ez'
        exact Option.map_eq_some_iff.mp ez'
      have gv := hv x (o1 x (List.mem_of_getElem? ex)) y (o2 y (List.mem_of_getElem? ey)) z (o3 z (List.mem_of_getElem? ez))
      have st := same_new (o := .tup [V.str x, V.str y, V.str z]) nt
      refine ⟨rfl, ?_⟩
      refine ⟨_, rfl, _, rfl, d, V.str (g x y z), rfl, ?_, _, st _ _ q1, ?_, ?_, fun b o e => (upd_ne (ne_of_none e hD)).trans (st _ _ (q2 _ _ e))⟩
      · have := DGet.t (k := [Sum.inr x, Sum.inr y, Sum.inr z]) (st _ _ (q2 _ _ hd)) (upd_same (H := Hx) (a := t) (o := .tup [V.str x, V.str y, V.str z]))
        rw [gv] at this
        exact this
      · rw [List.length_map, gvn_len (n := i) (by rw [List.length_take]; omega) (by rw [List.length_take]; omega) (by rw [List.length_take]; omega)]
        exact len_ok (by omega)
      · rw [upd_same, gvn_take ex ey ez, List.map_append]
        rfl
    · rintro Hx ⟨q1, q2⟩
      rw [List.take_of_length_le (by omega), List.take_of_length_le (by omega), List.take_of_length_le (by omega)] at q1
      exact ⟨D, _, rfl, .inl ⟨SqL.of q1, fun T nT => k T _ (none_back q2 nT) upd_same fun b o e => same_new nT _ _ (q2 _ _ e)⟩⟩
end
end Yt

set_option Elab.async false
set_option linter.all false
set_option maxRecDepth 100000
set_option maxHeartbeats 2000000
namespace Yt
open PySem PySem.Spec PyProof.Rows L2
abbrev sCheckWay : Stmt := top 28
abbrev sWhy : Stmt := top 31
/-- a way over the marks in the heap, and what it gives -/
def WayOk (H : Hp) (d : Addr) (ms : List Str) (g : Str → Str → Str → Str) : Prop := ∃ m : List (List Key × V), WayIn H d ms m ∧ ∀ x ∈ ms, ∀ y ∈ ms, ∀ z ∈ ms, valV m [Sum.inr x, Sum.inr y, Sum.inr z] = some (.str (g x y z))
theorem WayOk.to {H H' : Hp} {d : Addr} {ms : List Str} {g : Str → Str → Str → Str} (h : WayOk H d ms g) (s : Same H H') : WayOk H' d ms g := by
  obtain ⟨m, h1, h2⟩ := h
  exact ⟨m, h1.to s, h2⟩
theorem WayOk.at_ {H : Hp} {d : Addr} {ms : List Str} {g : Str → Str → Str → Str} (h : WayOk H d ms g) : WayAt H d ms g := by
  obtain ⟨m, h1, h2⟩ := h
  exact ⟨m, h1.1, h2⟩
def rowsK (M : List (Addr × List Str)) : List (Addr × List Key) := M.map fun e => (e.1, kR e.2)
theorem rowsK_stand {H : Hp} {M : List (Addr × List Str)} (h : ∀ e ∈ M, H e.1 = some (.tup (e.2.map V.str))) : Stand H (rowsK M) := fun e he => by
  obtain ⟨u, hu, rfl⟩ := List.mem_map.mp he
  show H u.1 = some (.tup ((kR u.2).map kV))
  rw [kR_V]
  exact h u hu
section
variable {P : Program} {w : World} {K : PySem.W.Frag} {mg : Str → Option Value} {base : Heap} {f : Addr} {fd : FuncData} {C : Addr}
theorem scCheckWay : FnScope ["table", "way"] ["table", "way"] (defScope sCheckWay) := ⟨rfl, rfl, rfl, by decide +kernel, rfl, by decide +kernel, by decide +kernel⟩
abbrev WayArgT (C : Addr) : Hp → List V → Prop := fun H vs => ∃ (p dw : Addr) (ms : List Str) (d : Nat) (rs : List (List Str)) (g : Str → Str → Str → Str), vs = [.ref p, .ref dw] ∧ TableAt C H p ms d rs ∧ MarksOk ms ∧ WayOk H dw ms g
theorem ok_checkway {fT fW : Addr} {dT dW : FuncData} (F : FnP K "check_way" sCheckWay f fd) (TM : TM P w K mg base C)
    (GT : FnOk P w K mg base CX0 1 fT dT ["table"] (spNon (TableArg C))) (bT : Binds K dT ["table"] []) (kT : PySem.W.keepIn K (.ref fT) = true) (gT : mg "check_table" = some (.ref fT))
    (GW : FnOk P w K mg base CX0 2 fW dW ["marks", "value"] (spYes fun H vs => ∃ a d ms m, vs = [.ref a, .ref d] ∧ H a = some (.lst (ms.map V.str)) ∧ MarksOk ms ∧ WayIn H d ms m)) (bW : Binds K dW ["marks", "value"] []) (kW : PySem.W.keepIn K (.ref fW) = true) (gW : mg "is_way_over" = some (.ref fW)) :
    FnOk P w K mg base CX0 3 f fd ["table", "way"] (spNon (WayArgT C)) := by
  obtain ⟨fA, dA, GA, bA, mA⟩ := TM.marks
  have TT := TM.tc
  refine F.ok scCheckWay (fun vs H Q E h => ?_) (fun cdv A outer s H vs Q E hr h => ?_)
  · obtain ⟨⟨p, dw, ms, d, rs, g, rfl, _⟩, _⟩ := h
    rfl
  · obtain ⟨⟨p, dw, ms, d, rs, g, rfl, T1, ok, hw⟩, k⟩ := h
    refine ⟨_, PSs.nox (pss_cons (ps_expr (pe_call GT (hr.mono (by decide)) rfl gT kT bT .nil pass0 (pa_cons (pv 0) pa_nil)))
      (pss_one (ps_if (pt_not (pt_val (pe_call GW (hr.mono (by decide)) rfl gW kW bW .nil pass0 (pa_cons (pe_meth0 (pv 0) TT.cl mA GA (hr.mono (by decide)) bA .nil pass0) (pa_cons (pv 1) pa_nil))))) (pss_one ps_never) pss_nil))), ?_⟩
    refine ⟨_, rfl, ⟨p, ms, d, rs, rfl, T1⟩, fun H1 s1 => ?_⟩
    obtain ⟨dx, A1, R1, M1, g1, _⟩ := id (T1.to s1)
    refine ⟨_, rfl, p, dx, _, rfl, g1, no_attr (by decide +kernel), p, ms, d, rs, rfl, T1.to s1, fun L H2 nL hL s2 => ?_⟩
    obtain ⟨m, hm, _⟩ := (hw.to s1).to s2
    refine ⟨_, rfl, ⟨L, dw, ms, m, rfl, hL, ok, hm⟩, fun H3 s3 => ⟨true, rfl, ?_⟩⟩
    refine iteF ?_
    exact k H3 fun b o z => s3 _ _ (s2 _ _ (s1 _ _ z))
theorem scWhy : FnScope ["table", "way", "rows", "there", "first", "second", "third"] ["table", "way"] (defScope sWhy) := ⟨rfl, rfl, rfl, by decide +kernel, rfl, by decide +kernel, by decide +kernel⟩
def WhyEnd (g : Str → Str → Str → Str) (rs : List (List Str)) (H : Hp) (Q : VK) : Prop :=
  (ClosedG g rs → ∀ H', Same H H' → Q .non H') ∧
  ∀ x ∈ rs, ∀ y ∈ rs, ∀ z ∈ rs, gvn g x y z ∉ rs → ∀ (T a b c : Addr) (H' : Hp), H T = none → H' T = some (.tup [.ref a, .ref b, .ref c]) → H' a = some (.tup (x.map V.str)) → H' b = some (.tup (y.map V.str)) → H' c = some (.tup (z.map V.str)) → Same H H' → Q (.ref T) H'
def spWhy (C : Addr) : Sp := fun vs H Q _ => ∃ (p dw : Addr) (ms : List Str) (d : Nat) (rs : List (List Str)) (g : Str → Str → Str → Str), vs = [.ref p, .ref dw] ∧ TableAt C H p ms d rs ∧ MarksOk ms ∧ d ≤ 3 ∧ rs.length < 300 ∧ RowsOk ms (d + 1) rs ∧ WayOk H dw ms g ∧ WhyEnd g rs H Q
theorem ok_why {fC fG : Addr} {dC dG : FuncData} (F : FnP K "why_broken" sWhy f fd) (TM : TM P w K mg base C) (T6 : Nm6 mg)
    (GC : FnOk P w K mg base CX0 3 fC dC ["table", "way"] (spNon (WayArgT C))) (bC : Binds K dC ["table", "way"] []) (kC : PySem.W.keepIn K (.ref fC) = true) (gC : mg "check_way" = some (.ref fC))
    (GG : FnOk P w K mg base CX0 1 fG dG ["way", "first", "second", "third"] spGift8) (bG : Binds K dG ["way", "first", "second", "third"] []) (kG : PySem.W.keepIn K (.ref fG) = true) (gG : mg "_gift" = some (.ref fG)) (hset : mg "set" = none) :
    FnOk P w K mg base CX0 4 f fd ["table", "way"] (spWhy C) := by
  obtain ⟨fR, dR, GR, bR, mR⟩ := TM.rows
  have TT := TM.tc
  refine F.ok scWhy (fun vs H Q E h => ?_) (fun cdv A outer s H vs Q E hr h => ?_)
  · obtain ⟨p, dw, ms, d, rs, g, rfl, _⟩ := h
    rfl
  · obtain ⟨p, dw, ms, d, rs, g, rfl, T1, ok, d3, few, rok, hw, kN, kS⟩ := h
    have hu4 := units4 hr
    have hu := hu_of hr
    refine ⟨_, PSs.nox (pss_cons (ps_expr (pe_call GC (hr.mono (by decide)) rfl gC kC bC .nil pass0 (pa_cons (pv 0) (pa_cons (pv 1) pa_nil))))
      (pss_cons (ps_set (i := 2) scWhy.nd rfl (Or.inl rfl) (pe_meth0 (pv 0) TT.cl mR GR (hr.mono (by decide)) bR .nil pass0))
      (pss_cons (ps_set (i := 3) scWhy.nd rfl (Or.inl rfl) (pe_callTy (show CallR _ _ (rSetT K P w) from cr_setT rfl (units_le hu4 (by decide))) (by rfl) hset (by decide +kernel) (pa_cons (pv 2) pa_nil)))
      (pss_cons (ps_for PassesOwn.never rfl (pi_list (pv 2)) (pg_name (i := 4) scWhy.nd rfl (Or.inl rfl))
      (pss_one (ps_for PassesOwn.never rfl (pi_list (pv 2)) (pg_name (i := 5) scWhy.nd rfl (Or.inl rfl))
      (pss_one (ps_for PassesOwn.never rfl (pi_list (pv 2)) (pg_name (i := 6) scWhy.nd rfl (Or.inl rfl))
        (pss_one (ps_if (pt_cmpR (op_notin_setT (units_le hu4 (by decide))) (pe_call GG (hr.mono (by decide)) rfl gG kG bG .nil pass0 (pa_cons (pv 1) (pa_cons (pv 4) (pa_cons (pv 5) (pa_cons (pv 6) pa_nil))))) (pv 3) (by rfl))
          (pss_one (ps_ret (pe_tup (pa_cons (pv 4) (pa_cons (pv 5) (pa_cons (pv 6) pa_nil)))))) pss_nil)))))))
      (pss_one (ps_ret pe_non)))))), ?_⟩
    have l3 : 3 ≤ sizeLine := by decide
    refine ⟨_, rfl, _, rfl, ⟨p, dw, ms, d, rs, g, rfl, T1, ok, hw⟩, fun H1 s1 => ?_⟩
    obtain ⟨dx, A1, R1, M1, g1, _⟩ := id (T1.to s1)
    refine ⟨_, rfl, p, dx, _, rfl, g1, no_attr (by decide +kernel), p, ms, d, rs, rfl, T1.to s1, fun L M H2 nL hL RM eM s2 => ?_⟩
    have s02 : Same H H2 := fun b o e => s2 _ _ (s1 _ _ e)
    have lM : (M.map fun e => V.ref e.1).length = M.length := List.length_map _
    have lr : M.length = rs.length := by rw [← eM, List.length_map]
    refine ⟨_, rfl, L, rowsK M, rfl, SqL.of (by rw [hL]; unfold rowsK; rw [List.map_map]; rfl), rowsK_stand (RM.to s2).at_, by unfold rowsK; rw [List.length_map, lr]; exact few, fun S N nS sub all nd => ?_⟩
    have sS := same_new (o := SetTO' P w S N) nS
    have s03 : Same H (upd H2 S (SetTO' P w S N)) := fun b o e => sS _ _ (s02 _ _ e)
    have hS := upd_same (H := H2) (a := S) (o := SetTO' P w S N)
    have hL3 := sS _ _ hL
    have hM3 : ∀ e ∈ M, (upd H2 S (SetTO' P w S N)) e.1 = some (.tup (e.2.map V.str)) := fun e he => sS _ _ ((RM.to s2).at_ e he)
    generalize upd H2 S (SetTO' P w S N) = H3 at s03 hS hL3 hM3 ⊢
    have inN : ∀ r : List Str, kR r ∈ List.map Prod.snd N ↔ r ∈ rs := fun r => by
      constructor
      · intro h
        obtain ⟨e, he, ee⟩ := List.mem_map.mp h
        obtain ⟨u, hu, rfl⟩ := List.mem_map.mp (sub e he)
        rw [← eM]
        exact List.mem_map.mpr ⟨u, hu, kR_inj ee⟩
      · intro h
        rw [← eM] at h
        obtain ⟨u, hu, rfl⟩ := List.mem_map.mp h
        exact all (u.1, kR u.2) (List.mem_map.mpr ⟨u, hu, rfl⟩)
    have stN : Stand H3 N := fun e he => rowsK_stand hM3 e (sub e he)
    have at_ : ∀ {i : Nat} {v : V}, (M.map fun e => V.ref e.1)[i]? = some v → ∃ u, M[i]? = some u ∧ u ∈ M ∧ v = .ref u.1 := fun {i v} e => by
      rw [List.getElem?_map] at e
      obtain ⟨u, hu, rfl⟩ := Option.map_eq_some_iff.mp e
      exact ⟨u, hu, List.mem_of_getElem? hu, rfl⟩
    have inr : ∀ {u : Addr × List Str}, u ∈ M → u.2 ∈ rs := fun hu => by
      rw [← eM]
      exact List.mem_map.mpr ⟨_, hu, rfl⟩
    have len : ∀ {u : Addr × List Str}, u ∈ M → u.2.length = d + 1 ∧ ∀ z ∈ u.2, z ∈ ms := fun hu => rok _ (inr hu)
    refine ⟨_, rfl, L, rfl, ⟨_, SqL.of hL3⟩, for_list (K := K) (a := L) (xs := M.map fun e => V.ref e.1) (fun i σ Hb => ∃ u4 u5 u6, σ = [some (.ref p), some (.ref dw), some (.ref L), some (.ref S), u4, u5, u6] ∧ Same H3 Hb ∧ ∀ x ∈ M.take i, ∀ y ∈ M, ∀ z ∈ M, gvn g x.2 y.2 z.2 ∈ rs)
      ⟨_, _, _, rfl, (fun _ _ e => e), fun x hx => by simp at hx⟩ (fun i σ Hb _ ⟨_, _, _, _, s, _⟩ => SqL.of (s _ _ hL3)) ?_ ?_⟩
    · rintro i v σ Hb hi ⟨u4, u5, u6, rfl, sb, hb⟩
      obtain ⟨x, ex, xm, rfl⟩ := at_ hi
      refine ⟨_, rfl, L, rfl, ⟨_, SqL.of (sb _ _ hL3)⟩, for_list (K := K) (a := L) (xs := M.map fun e => V.ref e.1) (fun j σ Hc => ∃ u5 u6, σ = [some (.ref p), some (.ref dw), some (.ref L), some (.ref S), some (.ref x.1), u5, u6] ∧ Same H3 Hc ∧ ∀ y ∈ M.take j, ∀ z ∈ M, gvn g x.2 y.2 z.2 ∈ rs)
        ⟨_, _, rfl, sb, fun x hx => by simp at hx⟩ (fun i σ Hb _ ⟨_, _, _, s, _⟩ => SqL.of (s _ _ hL3)) ?_ ?_⟩
      · rintro j v σ Hc hj ⟨u5, u6, rfl, sc, hc⟩
        obtain ⟨y, ey, ym, rfl⟩ := at_ hj
        refine ⟨_, rfl, L, rfl, ⟨_, SqL.of (sc _ _ hL3)⟩, for_list (K := K) (a := L) (xs := M.map fun e => V.ref e.1) (fun k σ Hd => ∃ u6, σ = [some (.ref p), some (.ref dw), some (.ref L), some (.ref S), some (.ref x.1), some (.ref y.1), u6] ∧ Same H3 Hd ∧ ∀ z ∈ M.take k, gvn g x.2 y.2 z.2 ∈ rs)
          ⟨_, rfl, sc, fun x hx => by simp at hx⟩ (fun i σ Hb _ ⟨_, _, s, _⟩ => SqL.of (s _ _ hL3)) ?_ ?_⟩
        · rintro k v σ Hd hk ⟨u6, rfl, sd, hd⟩
          obtain ⟨z, ez, zm, rfl⟩ := at_ hk
          have s0d : Same H Hd := fun b o e => sd _ _ (s03 _ _ e)
          refine ⟨_, rfl, _, rfl, _, rfl, _, rfl, dw, x.1, y.1, z.1, ms, g, d + 1, x.2, y.2, z.2, rfl, (hw.to s0d).at_, sd _ _ (hM3 x xm), sd _ _ (hM3 y ym), sd _ _ (hM3 z zm), (len xm).1, (len ym).1, (len zm).1, by omega, (len xm).2, (len ym).2, (len zm).2, fun T H4 nT hT s4 => ?_⟩
          have s34 : Same H3 H4 := fun b o e => s4 _ _ (sd _ _ e)
          have s04 : Same H H4 := fun b o e => s34 _ _ (s03 _ _ e)
          refine ⟨_, rfl, T, S, kR (gvn g x.2 y.2 z.2), N, decide (gvn g x.2 y.2 z.2 ∈ rs), rfl, rfl, by rw [hT, kR_V], s34 _ _ hS, fun e he => s34 _ _ (stN e he), by rw [decide_eq_true_iff, inN], ?_⟩
          by_cases c : gvn g x.2 y.2 z.2 ∈ rs
          · rw [decide_eq_true c]
            refine ⟨_, rfl, _, rfl, s34, fun z' hz => ?_⟩
            rw [List.take_add_one, ez] at hz
            rcases List.mem_append.mp hz with hz | hz
            · exact hd z' hz
            · obtain rfl : z' = z := by simpa using hz
              exact c
          · rw [decide_eq_false c]
            exact ⟨_, rfl, _, rfl, _, rfl, _, rfl, l3, fun T nT => by
              have sT := same_new (o := .tup [V.ref x.1, V.ref y.1, V.ref z.1]) nT
              exact kS x.2 (inr xm) y.2 (inr ym) z.2 (inr zm) c T x.1 y.1 z.1 _ (none_back s04 nT) upd_same (sT _ _ (s34 _ _ (hM3 x xm))) (sT _ _ (s34 _ _ (hM3 y ym))) (sT _ _ (s34 _ _ (hM3 z zm))) fun b o e => sT _ _ (s04 _ _ e)⟩
        · rintro σ Hd ⟨u4, rfl, sd, hd⟩
          rw [lM, List.take_length] at hd
          refine ⟨_, _, rfl, sd, fun y' hy => ?_⟩
          rw [List.take_add_one, ey] at hy
          rcases List.mem_append.mp hy with hy | hy
          · exact hc y' hy
          · obtain rfl : y' = y := by simpa using hy
            exact hd
      · rintro σ Hc ⟨u3, u4, rfl, sc, hc⟩
        rw [lM, List.take_length] at hc
        refine ⟨_, _, _, rfl, sc, fun x' hx => ?_⟩
        rw [List.take_add_one, ex] at hx
        rcases List.mem_append.mp hx with hx | hx
        · exact hb x' hx
        · obtain rfl : x' = x := by simpa using hx
          exact hc
    · rintro σ Hb ⟨u2, u3, u4, rfl, sb, hb⟩
      rw [lM, List.take_length] at hb
      refine kN (fun x hx y hy z hz => ?_) _ fun b o e => sb _ _ (s03 _ _ e)
      rw [← eM] at hx hy hz
      obtain ⟨a, ha, rfl⟩ := List.mem_map.mp hx
      obtain ⟨b, hb', rfl⟩ := List.mem_map.mp hy
      obtain ⟨c, hc, rfl⟩ := List.mem_map.mp hz
      exact hb a ha b hb' c hc
end
end Yt

set_option Elab.async false
set_option linter.all false
set_option maxRecDepth 100000
set_option maxHeartbeats 2000000
namespace Yt
open PySem PySem.Spec PyProof.Rows L2
abbrev sIsWhy : Stmt := top 32
theorem units65 {k : Nat} {A : Around} (hr : Room k A) : A.units + 65 < cLine := by
  have := hr.un
  omega
/-- three bools -/
theorem all3 (a b c : Bool) : [a, b, c].all id = (a && (b && (c && true))) := rfl
section
variable {P : Program} {w : World} {K : PySem.W.Frag} {mg : Str → Option Value} {base : Heap} {f : Addr} {fd : FuncData} {C : Addr}
theorem scIsWhy : FnScope ["table", "way", "value", "rows", "row", "first", "second", "third"] ["table", "way", "value"] (defScope sIsWhy) := ⟨rfl, rfl, rfl, by decide +kernel, rfl, by decide +kernel, by decide +kernel⟩
def spIsWhy (C : Addr) : Sp := fun vs H Q _ => ∃ (p dw : Addr) (x : V) (ms : List Str) (d : Nat) (rs : List (List Str)) (g : Str → Str → Str → Str) (b : Bool), vs = [.ref p, .ref dw, x] ∧ TableAt C H p ms d rs ∧ MarksOk ms ∧ d ≤ 3 ∧ RowsOk ms (d + 1) rs ∧ WayOk H dw ms g ∧ Val H x ∧ (b = true ↔ WhyV g rs H x) ∧ ∀ H', Same H H' → Q (.bl b) H'
theorem ok_iswhy {fC fG : Addr} {dC dG : FuncData} (F : FnP K "is_why_broken" sIsWhy f fd) (TM : TM P w K mg base C) (T : Nm mg) (T6 : Nm6 mg)
    (GC : FnOk P w K mg base CX0 3 fC dC ["table", "way"] (spNon (WayArgT C))) (bC : Binds K dC ["table", "way"] []) (kC : PySem.W.keepIn K (.ref fC) = true) (gC : mg "check_way" = some (.ref fC))
    (GG : FnOk P w K mg base CX0 1 fG dG ["way", "first", "second", "third"] spGift8) (bG : Binds K dG ["way", "first", "second", "third"] []) (kG : PySem.W.keepIn K (.ref fG) = true) (gG : mg "_gift" = some (.ref fG)) :
    FnOk P w K mg base CX0 4 f fd ["table", "way", "value"] (spIsWhy C) := by
  obtain ⟨fR, dR, GR, bR, mR⟩ := TM.rows
  have TT := TM.tc
  refine F.ok scIsWhy (fun vs H Q E h => ?_) (fun cdv A outer s H vs Q E hr h => ?_)
  · obtain ⟨p, dw, x, ms, d, rs, g, b, rfl, _⟩ := h
    rfl
  · obtain ⟨p, dw, x, ms, d, rs, g, b, rfl, T1, ok, d3, rok, hw, hx, hb, k⟩ := h
    have hu := hu_of hr
    refine ⟨_, PSs.nox (pss_cons (ps_expr (pe_call GC (hr.mono (by decide)) rfl gC kC bC .nil pass0 (pa_cons (pv 0) (pa_cons (pv 1) pa_nil))))
      (pss_cons (ps_set (i := 3) scIsWhy.nd rfl (Or.inr rfl) (pe_meth0 (pv 0) TT.cl mR GR (hr.mono (by decide)) bR .nil pass0))
      (pss_cons (ps_if (PW.pt (pw_or (pt_not (pt_val (pe_callB call_isi (by rfl) T6.isi (by decide +kernel) (pa_cons (pv 2) (pa_cons (pe_bltn (v := .ty "tuple") (u := .type "tuple") (by rfl) T6.tuple (by decide +kernel) rfl) pa_nil)))))
          (pw_or (pt_cmpR op_ne (pe_callB call_len (by rfl) T.len PySem.boot_len (pa_cons (pv 2) pa_nil)) pe_int (nomark _))
          (pw_or1 (pt_not (pt_val (pe_callB (cr_all rfl) (by rfl) T6.all (by decide +kernel) (pa_cons (pe_lc (own := [("row", 4)]) (g := gName 4) (tt := tYes) (te := tOp (rInD K) (tVar 4) (tVar 3)) rfl scIsWhy.nd (pi_tup (pv 2)) (blkOk_by (own := [("row", 4)]) (N := ["table", "way", "value", "rows", "row", "first", "second", "third"]) (sc := defScope sIsWhy) (by decide +kernel))
            (fun _ _ _ _ _ => pg_name (i := 4) scIsWhy.nd rfl (Or.inl rfl)) (fun _ _ _ _ _ => pts_nil) (fun _ _ _ _ _ => pe_cmpR (op_inD (units65 hr)) (pv 4) (pv 3) (by rfl))) pa_nil))))))))
        (pss_one (ps_ret pe_bl)) pss_nil)
      (pss_cons (ps_asg (pv 2) (pg_tup rfl (pgs_cons (pg_name (i := 5) scIsWhy.nd rfl (Or.inl rfl)) (pgs_cons (pg_name (i := 6) scIsWhy.nd rfl (Or.inl rfl)) (pgs_cons (pg_name (i := 7) scIsWhy.nd rfl (Or.inl rfl)) pgs_nil)))))
      (pss_one (ps_ret (pe_cmpR (op_notin_rows hu) (pe_call GG (hr.mono (by decide)) rfl gG kG bG .nil pass0 (pa_cons (pv 1) (pa_cons (pv 5) (pa_cons (pv 6) (pa_cons (pv 7) pa_nil))))) (pv 3) (by rfl)))))))), ?_⟩
    refine ⟨_, rfl, _, rfl, ⟨p, dw, ms, d, rs, g, rfl, T1, ok, hw⟩, fun H1 s1 => ?_⟩
    obtain ⟨dx, A1, R1, M1, g1, _⟩ := id (T1.to s1)
    refine ⟨_, rfl, p, dx, _, rfl, g1, no_attr (by decide +kernel), p, ms, d, rs, rfl, T1.to s1, fun L M H2 nL hL RM eM s2 => ?_⟩
    have s02 : Same H H2 := fun b o e => s2 _ _ (s1 _ _ e)
    have RM2 := RM.to s2
    have wrd : ∀ r ∈ M.map (·.2), ∀ z ∈ r, WordOk z := fun r hr z hz => ok.2.2.2 z ((rok r (by rw [← eM]; exact hr)).2 z hz)
    have shR : SeqAt.shaped (.list ((M.map (·.2)).map rowD)) = true := rows_shaped wrd
    have dpR : ∀ {Hx : Hp}, Same H2 Hx → Dp K Hx (.ref L) (.list ((M.map (·.2)).map rowD)) := fun {Hx} sx => .lst (SqL.of (sx _ _ hL)) (dp_rows fun e he => sx _ _ (RM2.at_ e he))
    have bF : (∀ rs, ¬ ThreeIn rs H x) → b = false := fun no => Bool.eq_false_iff.mpr fun z => no rs (hb.mp z).in_
    rcases hx.cases3 (K := K) with ⟨⟨t, ty, kt⟩, no⟩ | ⟨a, xs, rfl, ha, few, n3, no⟩ | ⟨a, x1, x2, x3, D1, D2, D3, rfl, ha, e1, e2, e3, h1, h2, h3⟩
    · refine ⟨_, rfl, _, _, t, _, false, rfl, .ty _, ty _ s02, kt, _, rfl, ?_⟩
      refine iteT ?_
      rw [bF no] at k
      exact k _ s02
    · refine ⟨_, rfl, _, _, .type "tuple", _, true, rfl, .ty _, .base (.tup (s02 _ _ ha)), kit_ty (by decide +kernel), _, rfl, ?_⟩
      refine iteF ?_
      refine ⟨_, rfl, _, xs.length, rfl, Or.inr ⟨_, SqT.of (s02 _ _ ha), rfl⟩, rfl, true, by show V.bl (!decide (V.int ((xs.length : Nat) : Int) = V.int 3)) = _; rw [decide_eq_false (fun z => by injection z with z; omega)] <;> rfl, ?_⟩
      refine iteT ?_
      refine iteT ?_
      rw [bF no] at k
      exact k _ s02
    · refine ⟨_, rfl, _, _, .type "tuple", _, true, rfl, .ty _, .base (.tup (s02 _ _ ha)), kit_ty (by decide +kernel), _, rfl, ?_⟩
      refine iteF ?_
      refine ⟨_, rfl, _, 3, rfl, Or.inr ⟨_, SqT.of (s02 _ _ ha), rfl⟩, rfl, false, by show V.bl (!decide (V.int 3 = V.int 3)) = _; rw [decide_eq_true (rfl : V.int 3 = V.int 3)] <;> rfl, ?_⟩
      refine iteF ?_
      refine ⟨_, rfl, a, rfl, ⟨_, SqT.of (s02 _ _ ha)⟩, fun D hD => ?_⟩
      have ev : ∀ {i : Nat} {v : V}, [x1, x2, x3][i]? = some v → ∃ d, [D1, D2, D3][i]? = some d ∧ Dv H v d ∧ SeqAt.shaped d = true := fun {i v} e => by
        match i, e with
        | 0, e => cases e; exact ⟨D1, rfl, e1, h1⟩
        | 1, e => cases e; exact ⟨D2, rfl, e2, h2⟩
        | 2, e => cases e; exact ⟨D3, rfl, e3, h3⟩
      refine lc_tup (K := K) (a := a) (xs := [x1, x2, x3]) (fun i Hx => Hx D = some (.lst ((([D1, D2, D3].take i).map (inRows rs)).map V.bl)) ∧ Same H2 Hx) ⟨upd_same, same_new hD⟩ (fun i Hx _ q => SqT.of (q.2 _ _ (s02 _ _ ha))) ?_ ?_
      · rintro i v Hx hv ⟨q1, q2⟩
        obtain ⟨d', ed, hd, sd⟩ := ev hv
        refine ⟨rfl, ?_⟩
        refine ⟨_, rfl, _, rfl, d', _, Dv.dp d' (Dv.to (fun b o e => q2 _ _ (s02 _ _ e)) d' hd), dpR q2, sd, shR, _, q1, ?_, ?_, fun b o e => (upd_ne (ne_of_none e hD)).trans (q2 _ _ e)⟩
        · rw [List.length_map, List.length_map, List.length_take]
          exact len_ok (by have : min i ([D1, D2, D3] : List PyData).length ≤ 3 := Nat.min_le_right _ _; omega)
        · rw [upd_same, List.take_add_one, ed, List.map_append, List.map_append, eM]
          rfl
      rintro Hx ⟨q1, q2⟩
      have s0x : Same H Hx := fun b o e => q2 _ _ (s02 _ _ e)
      refine ⟨D, _, rfl, SqL.of q1, ?_⟩
      have e4 := three_iff (rs := rs) ha e1 e2 e3
      have e5 : ((([D1, D2, D3].take ([x1, x2, x3] : List V).length).map (inRows rs))).all id = (inRows rs D1 && (inRows rs D2 && (inRows rs D3 && true))) := rfl
      rw [e5]
      refine ⟨_, rfl, ?_⟩
      by_cases c : ThreeIn rs H (.ref a)
      · rw [e4.mpr c]
        refine iteF ?_
        obtain ⟨u, hu, v, hv, w', hw', t0, b1, b2, b3, z0, z1, z2, z3, z4⟩ := id c
        cases z0
        rw [ha] at z1
        cases z1
        refine ⟨_, rfl, a, _, rfl, SqT.of (s0x _ _ ha), rfl, _, _, rfl, _, _, rfl, _, _, rfl, rfl, ?_⟩
        refine ⟨_, rfl, _, rfl, _, rfl, _, rfl, dw, b1, b2, b3, ms, g, d + 1, u, v, w', rfl, (hw.to s0x).at_, s0x _ _ z2, s0x _ _ z3, s0x _ _ z4, (rok u hu).1, (rok v hv).1, (rok w' hw').1, by omega, (rok u hu).2, (rok v hv).2, (rok w' hw').2, fun T0 H4 nT hT s4 => ?_⟩
        have s04 : Same H H4 := fun b o e => s4 _ _ (s0x _ _ e)
        have s24 : Same H2 H4 := fun b o e => s4 _ _ (q2 _ _ e)
        refine ⟨_, rfl, T0, L, _, M, rfl, rfl, hT, s24 _ _ hL, fun e he => s24 _ _ (RM2.at_ e he), ?_⟩
        have e6 : (!decide (gvn g u v w' ∈ M.map (·.2))) = b := by
          rw [eM, Bool.eq_iff_iff, hb, WhyV.iff hu hv hw' ⟨a, b1, b2, b3, rfl, ha, z2, z3, z4⟩]
          simp
        rw [e6]
        exact k _ s04
      · rw [Bool.eq_false_iff.mpr fun z => c (e4.mp z)]
        refine iteT ?_
        rw [Bool.eq_false_iff.mpr fun z => c (hb.mp z).in_] at k
        exact k _ s0x
end
end Yt

set_option Elab.async false
set_option linter.all false
set_option maxRecDepth 100000
set_option maxHeartbeats 2000000
namespace Yt
open PySem PySem.Spec PyProof.Rows L2
abbrev sLIs3 : Stmt := top 62
section
variable {P : Program} {w : World} {K : PySem.W.Frag} {mg : Str → Option Value} {base : Heap} {f : Addr} {fd : FuncData} {C : Addr}
theorem scLIs3 : FnScope ["_law_rows", "_law_value", "_law_row_here"] ["_law_rows", "_law_value"] (defScope sLIs3) := ⟨rfl, rfl, rfl, by decide +kernel, rfl, by decide +kernel, by decide +kernel⟩
def spLIs3 : Sp := fun vs H Q _ => ∃ (l : Addr) (x : V) (M : List (Addr × List Str)) (b : Bool), vs = [.ref l, x] ∧ RowsAt H l M ∧ (∀ r ∈ M.map (·.2), ∀ z ∈ r, WordOk z) ∧ Val H x ∧ (b = true ↔ ThreeIn (M.map (·.2)) H x) ∧ ∀ H', Same H H' → Q (.bl b) H'
theorem ok_lis3 (F : FnP K "_law_is_three_rows" sLIs3 f fd) (T : Nm mg) (T6 : Nm6 mg) : FnOk P w K mg base CX0 1 f fd ["_law_rows", "_law_value"] spLIs3 := by
  refine F.ok scLIs3 (fun vs H Q E h => ?_) (fun cdv A outer s H vs Q E hr h => ?_)
  · obtain ⟨l, x, M, b, rfl, _⟩ := h
    rfl
  · obtain ⟨l, x, M, b, rfl, hl, wrd, hx, hb, k⟩ := h
    have hu := hu_of hr
    refine ⟨_, PSs.nox (pss_one (ps_ret (pe_and (pe_callB call_isi (by rfl) T6.isi (by decide +kernel) (pa_cons (pv 1) (pa_cons (pe_bltn (v := .ty "tuple") (u := .type "tuple") (by rfl) T6.tuple (by decide +kernel) rfl) pa_nil)))
      (pe_and (pe_cmpR op_eq (pe_callB call_len (by rfl) T.len PySem.boot_len (pa_cons (pv 1) pa_nil)) pe_int (nomark _))
      (pe_one (pe_callB (cr_all rfl) (by rfl) T6.all (by decide +kernel) (pa_cons (pe_lc (own := [("_law_row_here", 2)]) (g := gName 2) (tt := tYes) (te := tAndV (tCB (rIsi K) (tCons (tVar 2) (tCons (tC (.ty "tuple")) tNil))) (tOp (rInD K) (tVar 2) (tVar 0))) rfl scLIs3.nd (pi_tup (pv 1)) (blkOk_by (own := [("_law_row_here", 2)]) (N := ["_law_rows", "_law_value", "_law_row_here"]) (sc := defScope sLIs3) (by decide +kernel))
        (fun _ _ _ _ _ => pg_name (i := 2) scLIs3.nd rfl (Or.inl rfl)) (fun _ _ _ _ _ => pts_nil) (fun _ _ _ _ _ => pe_and (pe_callB call_isi (by rfl) T6.isi (by decide +kernel) (pa_cons (pv 2) (pa_cons (pe_bltn (v := .ty "tuple") (u := .type "tuple") (by rfl) T6.tuple (by decide +kernel) rfl) pa_nil))) (pe_one (pe_cmpR (op_inD (units65 hr)) (pv 2) (pv 0) (by rfl))))) pa_nil))))))), ?_⟩
    have shR : SeqAt.shaped (.list ((M.map (·.2)).map rowD)) = true := rows_shaped wrd
    have bF : (¬ ThreeIn (M.map (·.2)) H x) → b = false := fun no => Bool.eq_false_iff.mpr fun z => no (hb.mp z)
    rcases hx.cases3 (K := K) with ⟨⟨t, ty, kt⟩, no⟩ | ⟨a, xs, rfl, ha, few, n3, no⟩ | ⟨a, x1, x2, x3, D1, D2, D3, rfl, ha, e1, e2, e3, h1, h2, h3⟩
    · refine ⟨_, rfl, _, _, t, _, false, rfl, .ty _, ty _ (fun _ _ e => e), kt, _, rfl, ?_⟩
      refine iteF ?_
      rw [bF (no _)] at k
      exact k _ (fun _ _ e => e)
    · refine ⟨_, rfl, _, _, .type "tuple", _, true, rfl, .ty _, .base (.tup ha), kit_ty (by decide +kernel), _, rfl, ?_⟩
      refine iteT ?_
      refine ⟨_, rfl, _, xs.length, rfl, Or.inr ⟨_, SqT.of ha, rfl⟩, rfl, false, by show V.bl (decide (V.int ((xs.length : Nat) : Int) = V.int 3)) = _; rw [decide_eq_false (fun z => by injection z with z; omega)] <;> rfl, ?_⟩
      refine iteF ?_
      rw [bF (no _)] at k
      exact k _ (fun _ _ e => e)
    · refine ⟨_, rfl, _, _, .type "tuple", _, true, rfl, .ty _, .base (.tup ha), kit_ty (by decide +kernel), _, rfl, ?_⟩
      refine iteT ?_
      refine ⟨_, rfl, _, 3, rfl, Or.inr ⟨_, SqT.of ha, rfl⟩, rfl, true, by show V.bl (decide (V.int 3 = V.int 3)) = _; rw [decide_eq_true (rfl : V.int 3 = V.int 3)] <;> rfl, ?_⟩
      refine iteT ?_
      refine ⟨_, rfl, a, rfl, ⟨_, SqT.of ha⟩, fun D hD => ?_⟩
      have ev : ∀ {i : Nat} {v : V}, [x1, x2, x3][i]? = some v → ∃ d, [D1, D2, D3][i]? = some d ∧ Dv H v d ∧ SeqAt.shaped d = true := fun {i v} e => by
        match i, e with
        | 0, e => cases e; exact ⟨D1, rfl, e1, h1⟩
        | 1, e => cases e; exact ⟨D2, rfl, e2, h2⟩
        | 2, e => cases e; exact ⟨D3, rfl, e3, h3⟩
      refine lc_tup (K := K) (a := a) (xs := [x1, x2, x3]) (fun i Hx => Hx D = some (.lst ((([D1, D2, D3].take i).map (inRows (M.map (·.2)))).map V.bl)) ∧ Same H Hx) ⟨upd_same, same_new hD⟩ (fun i Hx _ q => SqT.of (q.2 _ _ ha)) ?_ ?_
      · rintro i v Hx hv ⟨q1, q2⟩
        obtain ⟨d', ed, hd, sd⟩ := ev hv
        obtain ⟨t, ty, kt⟩ := Dv.kit (K := K) hd
        refine ⟨rfl, ?_⟩
        refine ⟨_, rfl, _, _, t, _, isTup d', rfl, .ty _, ty _ q2, kt, _, rfl, ?_⟩
        have fin : ∀ b : Bool, b = inRows (M.map (·.2)) d' → ∃ acc, Hx D = some (.lst acc) ∧ acc.length < sizeLine ∧ (upd Hx D (.lst (acc ++ [V.bl b]))) D = some (.lst ((([D1, D2, D3].take (i + 1)).map (inRows (M.map (·.2)))).map V.bl)) ∧ Same H (upd Hx D (.lst (acc ++ [V.bl b]))) := fun b eb => by
          refine ⟨_, q1, ?_, ?_, fun b o e => (upd_ne (ne_of_none e hD)).trans (q2 _ _ e)⟩
          · rw [List.length_map, List.length_map, List.length_take]
            exact len_ok (by have : min i ([D1, D2, D3] : List PyData).length ≤ 3 := Nat.min_le_right _ _; omega)
          · rw [upd_same, List.take_add_one, ed, List.map_append, List.map_append, eb]
            rfl
        cases c : isTup d' with
        | false =>
          refine iteF ?_
          refine fin false ?_
          cases e : inRows (M.map (·.2)) d' with
          | false => rfl
          | true =>
            obtain ⟨r, _, rfl⟩ := inRows_iff.mp e
            cases c
        | true =>
          refine iteT ?_
          exact ⟨_, rfl, _, rfl, d', _, Dv.dp d' (Dv.to q2 d' hd), .lst (SqL.of (q2 _ _ hl.1)) (dp_rows fun e he => q2 _ _ (hl.2 e he)), sd, shR, fin _ rfl⟩
      rintro Hx ⟨q1, q2⟩
      refine ⟨D, _, rfl, SqL.of q1, ?_⟩
      have e4 := three_iff (rs := M.map (·.2)) ha e1 e2 e3
      have e5 : ((([D1, D2, D3].take ([x1, x2, x3] : List V).length).map (inRows (M.map (·.2))))).all id = b := by
        rw [Bool.eq_iff_iff, hb, ← e4]
        exact Iff.rfl
      rw [e5]
      exact k _ q2
end
end Yt

set_option Elab.async false
set_option linter.all false
set_option maxRecDepth 100000
set_option maxHeartbeats 2000000
namespace Yt
open PySem PySem.Spec PyProof.Rows L2
/-! ### t[::-1] of a tuple of three -/
def tRev3 (K : PySem.W.Frag) (te : TE) : TE := fun σ H Q => te σ H fun x H1 => ∃ a u v w, x = .ref a ∧ SqT K H1 a [u, v, w] ∧ ∀ p, H1 p = none → Q (.ref p) (upd H1 p (.tup [w, v, u]))
section
variable {prog : Program} {w : World} {A : Around} {E : Value → Shared → Prop} {s : Shared}
theorem back_tup3 {t sl : Addr} {x y z vs : Value} {Q : Value → Shared → Prop} (ht : PyProof.Rows.IsTup s.heap t #[x, y, z]) (hs : s.heap.IsSliceOf sl .none .none vs) (ps : IsPart vs (some (-1)))
    (h : Q (.ref s.heap.objs.size) { s with heap := s.heap.push { cls := .type "tuple", data := .seq #[z, y, x] } }) : wpAny (model prog w) A (getItem (.ref t) (.ref sl)) Q E s := by
  obtain ⟨ob, hob, hcb, hdb⟩ := id hs
  have hT : s.TypeIs (.ref sl) "slice" := ⟨ob, hob, hcb⟩
  unfold getItem
  try with_reducible refine wpAny_holding ?_
  first | refine wpAny_bind (wpAny_pure ?_) | skip
  refine wpAny_bind (wpAny_sequenceKey ht.typeIs (by decide) ?_)
  refine wpAny_bind (wpAny_callSpecial?_slot (name := Str.ofString "__getitem__") ht.typeIs PyProof.Rows.slot_tuple_getitem (wpAny_call_entry PyProof.Rows.slot_tuple_getitem ht.typeIs entry_tuple_getitem ?_ (args_tuple_getitem _ _)))
  show wpAny _ _ (Builtin.Tuple.tupleItemsOf (.ref t) >>= _) _ _ s
  refine wpAny_bind (tupleItemsOf_ ht (wpAny_bind (wpAny_typeOf hT ?_)))
  rw [if_pos (by decide)]
  refine wpAny_bind ?_
  unfold Builtin.Slice.sliceApplied Builtin.Slice.sliceFields
  refine wpAny_bind (wpAny_bind (wpAny_field hob hdb (x := .none) rfl (wpAny_bind (wpAny_field hob hdb (x := .none) rfl (wpAny_bind (wpAny_field hob hdb (x := vs) rfl (wpAny_pure ?_)))))))
  refine wpAny_bind (HT.slicePart_ ps ?_)
  show wpAny _ _ (if ((-1 : Int) == 0) = true then _ else _) _ _ s
  rw [if_neg (by decide)]
  refine wpAny_bind (slicePart_none (wpAny_bind (slicePart_none (wpAny_bind (wpAny_pure ?_)))))
  have ha : Builtin.Slice.sliceAdjust none none (-1) (((#[x, y, z] : Array Value).size : Nat) : Int) = (2, -1) := rfl
  have hp : Builtin.Slice.slicePlaces 2 (-1) (-1) = 3 := by decide
  show wpAny _ _ (match Builtin.Slice.sliceAdjust none none (-1) (((#[x, y, z] : Array Value).size : Nat) : Int) with | (lo, hi) => pure (lo, (-1 : Int), Builtin.Slice.slicePlaces lo hi (-1))) _ _ s
  rw [ha]
  show wpAny _ _ (pure ((2 : Int), (-1 : Int), Builtin.Slice.slicePlaces 2 (-1) (-1))) _ _ s
  rw [hp]
  refine wpAny_pure ?_
  have hi : ((List.range 3).filterMap fun (m : Nat) => (#[x, y, z] : Array Value)[((2 : Int) + (m : Int) * (-1)).toNat]?).toArray = #[z, y, x] := rfl
  have hno : ¬ ((((2 : Int) == 0 && (-1 : Int) == 1 && (3 : Nat) == (3 : Nat)) : Bool) = true) := by decide
  show wpAny _ _ (if (((2 : Int) == 0 && (-1 : Int) == 1 && (3 : Nat) == (3 : Nat)) : Bool) = true then _ else _) _ _ s
  rw [if_neg hno, hi]
  have small : sizeOk (.seq (#[z, y, x] : Array Value)) := by
    show (3 : Nat) ≤ sizeLine
    rw [sizeLine_eq]
    omega
  first
    | exact wpAny_bind (m := Builtin.Tuple.tupleExact _) (wpAny_newObj_type (wpAny_pure ⟨_, rfl, wpAny_pure h⟩) small)
    | exact wpAny_bind (m := Builtin.Tuple.tupleExact _) (wpAny_newObj_type (wpAny_bind (wpAny_pure (wpAny_pure ⟨_, rfl, wpAny_pure h⟩))) small)
    | exact wpAny_bind (wpAny_bind (m := Builtin.Tuple.tupleExact _) (wpAny_newObj_type (wpAny_pure (wpAny_pure ⟨_, rfl, wpAny_pure h⟩)) small))
    | exact wpAny_bind (wpAny_bind (m := Builtin.Tuple.tupleExact _) (wpAny_newObj_type (wpAny_pure ⟨_, rfl, wpAny_pure h⟩) small))
end
theorem pe_rev3 {X : Cx} {e : Expr} {te : TE} {k : Nat} {p1 p2 p3 pos : Pos} (he : PE X e te) : PE X (.Subscript e (.Slice none none (some (.UnaryOp .USub (.Constant (.int 1) k p1) p2)) p3) pos) (tRev3 X.K te) := by
  constructor
  intro pins sa σ Ha Q Ia hq
  have first_ := he.run pins sa σ Ha (fun x H1 => ∃ a u v w, x = .ref a ∧ SqT X.K H1 a [u, v, w] ∧ ∀ p, H1 p = none → Q (.ref p) (upd H1 p (.tup [w, v, u]))) Ia hq
  refine Subscript_ (thn first_ fun v1 sb ⟨x0, Hb, Ib, rb, qb⟩ => ?_)
  obtain ⟨a, u, z, y3, rfl, hx, q⟩ := qb
  cases rb
  have minus : PO X (some (.UnaryOp .USub (.Constant (.int 1) k p1) p2)) (tPart (tUn (rU fun i => .int (-i)) (tC (.int 1)))) := po_some (pe_un un_neg pe_int)
  refine wpAny_Slice (thn (po_none.run pins sb σ Hb (fun o Hc => o = none ∧ Hc = Hb) Ib ⟨rfl, rfl⟩) fun vl sc ⟨o1, H2, I2, pl, ea, eb⟩ => ?_)
  subst ea eb
  refine thn (po_none.run pins sc σ H2 (fun o Hc => o = none ∧ Hc = H2) I2 ⟨rfl, rfl⟩) fun vu sd ⟨o2, H3, I3, pu, ea, eb⟩ => ?_
  subst ea eb
  refine thn (minus.run pins sd σ H3 (fun o Hc => o = some (-1) ∧ Hc = H3) I3 ⟨1, rfl, -1, rfl, rfl, rfl⟩) fun vs s4 ⟨o3, H4, I4, ps, ea, eb⟩ => ?_
  subst ea eb
  cases pl
  cases pu
  have I5 : Inv X pins σ H4 { s4 with heap := s4.heap.push { cls := .type "slice", data := .fields #[.none, .none, vs] } } := I4.kept (t' := s4.toks) fun b ob q => Heap.get?_push_of_some _ q
  obtain ⟨its, r, ht, hz⟩ := I5.tuple hx
  obtain ⟨x1, y1, z1, rfl, rx, ry, rz⟩ : ∃ x1 y1 z1, its = [x1, y1, z1] ∧ RelV u x1 ∧ RelV z y1 ∧ RelV y3 z1 := by
    cases r with
    | cons h1 t1 =>
      cases t1 with
      | cons h2 t2 =>
        cases t2 with
        | cons h3 t3 =>
          cases t3
          exact ⟨_, _, _, rfl, h1, h2, h3⟩
  show wpAny (model X.prog X.w) X.A (subscriptTail e (.Slice none none (some (.UnaryOp .USub (.Constant (.int 1) k p1) p2)) p3) (.ref a) (.ref s4.heap.objs.size)) (EP X pins σ Q) X.xe { s4 with heap := s4.heap.push { cls := .type "slice", data := .fields #[.none, .none, vs] } }
  refine tail_any (ops := [.ref a, .ref s4.heap.objs.size]) ht.typeIs PyProof.Rows.slot_tuple_getitem.lookup ?_ (by with_unfolding_all rfl)
  refine back_tup3 ht (Heap.IsSliceOf.new _ .none .none vs) ps ?_
  refine ⟨.ref _, _, I5.laid (t' := s4.toks) (o := .tup [y3, z, u]) (fun b ob q => Heap.get?_push_of_some _ q) (Nat.le_refl _) ?_, rfl, q _ (I5.hok.fresh (Nat.le_refl _))⟩
  exact ⟨by show 3 ≤ sizeLine; decide, [z1, y1, x1], .cons rz (.cons ry (.cons rx .nil)), PyProof.Rows.IsTup.new _ _⟩
end Yt

set_option Elab.async false
set_option linter.all false
set_option maxRecDepth 100000
set_option maxHeartbeats 2000000
namespace Yt
open PySem PySem.Spec PyProof.Rows L2
/-! ### for k, v in d.items(), the keys tuples -/
def ItiT (d : Addr) (o : Obj) (kvs : List (List Key × V)) : It :=
  ⟨fun i H => H d = some (.frz o (.dT kvs)) ∧ i < kvs.length, fun i H x H' => ∃ (T q : Addr) (k : List Key) (v : V), kvs[i]? = some (k, v) ∧ x = .ref T ∧ H T = none ∧ H q = some (.tup (k.map kV)) ∧ H' = upd H T (.tup [.ref q, v]), fun i H => H d = some (.frz o (.dT kvs)) ∧ kvs.length ≤ i⟩
section
variable {X : Cx} {pins : List (Addr × Obj)} {σ : L2.St} {H : Hp} {s : Shared}
theorem frz_rows {d : Addr} {o : Obj} {kvs : List (List Key × V)} (I : Inv X pins σ H s) (h : H d = some (.frz o (.dT kvs))) :
    (d == sysModules) = false ∧ s.heap.get? d = some o ∧ o.ExactDict ∧ ∃ (es : Array DictEntry) (ep : Nat), o.data = .dict es ep ∧ es.size = kvs.length ∧
      ∀ (i : Nat) (k : List Key) (v : V), kvs[i]? = some (k, v) → ∃ (en : DictEntry) (q : Addr), es[i]? = some en ∧ en.key = .ref q ∧ H q = some (.tup (k.map kV)) ∧ RelV v en.val := by
  obtain ⟨hd, z, hs, xs, pr, o', es, ep, ho, hx, hdt, he, _⟩ := I.hok d _ h
  rw [hd] at ho
  cases ho
  refine ⟨hs, hd, hx, es, ep, hdt, ?_, fun i k v e => ?_⟩
  · rw [size_of_entries he, Paired.length pr]
  · obtain ⟨b, hb, e1, e2, e3⟩ := L2.paired_get pr e
    exact ⟨_, b.2.1, by rw [entry_at he, hb] <;> rfl, rfl, e2, e3⟩
end
section
variable {P : Program} {w : World} {K : PySem.W.Frag} {d : Addr} {o : Obj} {es : Array DictEntry} {ep : Nat}
theorem turn_itemsT {kvs : List (List Key × V)} {elts : List Expr} {kk : Nat} {tpos : Pos} (it : Addr) (hod : o.data = .dict es ep) :
    Turn P w K (.Tuple elts kk tpos) (ItiT d o kvs) [it] it (fun i h => ∃ ok ov, IsItemIter h it d i es.size ep ok ov) where
  mem := by simp
  obj := fun i h st b hb => by
    obtain rfl : b = it := by simpa using hb
    obtain ⟨ok, ov, e⟩ := st
    exact ⟨_, e, fun v z => nomatch z⟩
  keep := fun i h h' st k => let ⟨ok, ov, e⟩ := st; ⟨ok, ov, k it (by simp) _ e⟩
  item := by
    intro X hP hw hK calm i pins s σ H E I hf st hg
    subst hP hw hK
    obtain ⟨hd, lt⟩ := hg
    obtain ⟨hs, hgd, hx, es', ep', hdt, sz, ent⟩ := frz_rows I hd
    obtain ⟨rfl, rfl⟩ := dict_ep hod hdt
    obtain ⟨⟨k, v⟩, hkv⟩ : ∃ p, kvs[i]? = some p := ⟨kvs[i], List.getElem?_eq_getElem lt⟩
    obtain ⟨en, q, e1, e2, e3, e4⟩ := ent i k v hkv
    obtain ⟨ok, ov, he⟩ := st
    have ltI : it < s.heap.objs.size := Heap.lt_size he
    have lt' : i < es'.size := by omega
    have een : es'[i] = en := by
      rw [Array.getElem?_eq_getElem lt'] at e1
      exact Option.some.inj e1
    refine wpAny_pyNext_items_item_raw he ⟨o, hgd, hx, hdt⟩ lt' fun h' out hT hz hk => ?_
    rw [een, e2] at hT out
    refine ⟨_, rfl, wpAny_letOwnedTupleGo_items (s := { s with heap := h' }) out fun h2 he2 sb => ?_⟩
    have hT2 : h2.get? s.heap.objs.size = some { cls := .type "tuple", data := .seq #[.ref q, en.val] } := (sb.2 _ (Nat.ne_of_gt ltI)).trans hT
    have new : ObjOk X.prog X.w (upd H s.heap.objs.size (.tup [.ref q, v])) h2 s.heap.objs.size (.tup [.ref q, v]) :=
      ⟨by show 2 ≤ sizeLine; decide, [.ref q, en.val], .cons rfl (.cons e4 .nil), ⟨_, hT2, rfl, _, rfl⟩⟩
    have I1 : Inv X pins σ (upd H s.heap.objs.size (.tup [.ref q, v])) { s with heap := h2 } :=
      I.turnedNew (t' := s.toks) (ch := [it]) (fun b ob hb e => (sb.2 b (by simpa using hb)).trans (hk b ob (by simpa using hb) e)) hf (Nat.le_refl _) new
    refine ⟨.ref s.heap.objs.size, _, I1, rfl, ⟨_, q, k, v, hkv, rfl, I.hok.fresh (Nat.le_refl _), e3, rfl⟩, ⟨_, _, he2⟩, fun b hb => ?_⟩
    obtain rfl : b = it := by simpa using hb
    rw [upd_ne (Nat.ne_of_lt ltI)]
    exact (hf b (by simp)).1
  done := by
    intro X hP hw hK calm i pins s σ H E I hf st hg
    subst hP hw hK
    obtain ⟨hd, ge⟩ := hg
    obtain ⟨f0, f1, f2, f3, f4, f5⟩ := hf it (by simp)
    obtain ⟨hs, hgd, hx, es', ep', hdt, sz, ent⟩ := frz_rows I hd
    obtain ⟨rfl, rfl⟩ := dict_ep hod hdt
    obtain ⟨ok, ov, he⟩ := st
    exact wpAny_pyNext_items_end_raw (I.ok.hd calm) he ⟨o, hgd, hx, hdt⟩ (by omega) fun h' eb => ⟨rfl, I.turned (t' := s.toks) (fun b ob hb e => eb b ob hb e) f0 f1 f3 f4 f5⟩
  self := fun A i s Q E st h => let ⟨_, _, e⟩ := st; PySem.W.kcp_self e h
end
def iItemsT (td : TE) : TI := fun σ H R => td σ H fun x H1 => ∃ d o kvs, x = .ref d ∧ H1 d = some (.frz o (.dT kvs)) ∧ R (ItiT d o kvs) H1
theorem pi_itemsT {X : Cx} {e : Expr} {td : TE} {apos cpos : Pos} {elts : List Expr} {kk : Nat} {tpos : Pos} (he : PE X e td) (hbase : attributeBase e "items" X.env (eval e X.env) = eval e X.env := by rfl) (hline : (apos.endLine == cpos.line) = true := by rfl) :
    PI X (.Tuple elts kk tpos) (.Call (.Attribute e "items" apos) [] [] cpos) (iItemsT td) := by
  refine ⟨fun pins s σ H R I h => ?_⟩
  refine wpAny_Call_method (T := "dict") (id := "dict.items") hbase rfl hline F.plainAttrs_dict F.slot_dict_items F.type_dict_items (thn (he.run pins s σ H _ I h) fun u s1 ⟨x, H1, I1, rx, d, o, kvs, ex, hd, q⟩ => ?_)
  subst ex
  obtain rfl : u = Value.ref d := rx
  obtain ⟨hs, hgd, hx, es, ep, hdt, sz, ent⟩ := frz_rows I1 hd
  have raw : s1.heap.DictRaw d es ep := ⟨o, hgd, hx, hdt⟩
  refine ⟨⟨o, hgd, hx.1⟩, (fun a e => by cases e; exact ⟨o, hgd, hx.2.1⟩), ?_⟩
  have I2 : Inv X pins σ H1 { s1 with heap := s1.heap.push { cls := .type "dict_items", data := .fields #[.ref d] } } := I1.kept (t' := s1.toks) fun b ob z => Heap.get?_push_of_some _ z
  have fin : wpAny (model X.prog X.w) X.A (pyIter (.ref s1.heap.objs.size)) (PIE X pins σ (.Tuple elts kk tpos) R) X.xe { s1 with heap := s1.heap.push { cls := .type "dict_items", data := .fields #[.ref d] } } :=
    wpAny_pyIter_items_raw (d := d) ⟨_, Heap.get?_push_size _ rfl, rfl, rfl⟩ ⟨o, Heap.get?_push_of_some _ hgd, hx, hdt⟩ (pi_one (tk := s1.toks) I2 _ (turn_itemsT _ hdt) ⟨.none, .none, Heap.get?_push_size _ rfl⟩ q)
  show wpAny (model X.prog X.w) X.A (callWith cpos (.builtin "dict.items") [.ref d] [] []) _ X.xe s1
  exact method_meetsIn F.slot_dict_items F.entry_dict_items rfl (PySem.evalArgs_none ⟨rfl, ⟨o, hgd, hx.1⟩, F.args_dict_items_1 _, _, meets_dict_items_raw d hs, ⟨_, _, raw⟩, fin⟩)
theorem walk_itemsT {d : Addr} {o : Obj} {kvs : List (List Key × V)} : Walk (ItiT d o kvs) kvs.length (fun H => H d = some (.frz o (.dT kvs)))
    (fun i H x H' => ∃ (T q : Addr) (k : List Key) (v : V), kvs[i]? = some (k, v) ∧ x = .ref T ∧ H T = none ∧ H q = some (.tup (k.map kV)) ∧ H' = upd H T (.tup [.ref q, v])) :=
  ⟨fun _ _ hi q => ⟨q, hi⟩, fun _ q => ⟨q, Nat.le_refl _⟩, fun _ _ _ _ _ _ y => y⟩
end Yt

set_option Elab.async false
set_option linter.all false
set_option maxRecDepth 100000
set_option maxHeartbeats 2000000
namespace Yt
open PySem PySem.Spec PyProof.Rows L2
open PySem.W (KdxSt kdx_hint)
/-! ### list(d.items()), the keys tuples -/
section
variable {prog : Program} {w : World} {A : Around} {E : Value → Shared → Prop} {s : Shared}
abbrev pairOb (e : DictEntry) : Obj := { cls := .type "tuple", data := .seq #[e.key, e.val] }
theorem raw_item {it d S : Addr} {i ep : Nat} {es : Array DictEntry} {Q : Option Value → Shared → Prop} (st : KdxSt s.heap it d S i es.size ep) (hS : S < s.heap.objs.size) (hm : s.heap.DictRaw d es ep) (hi : i < es.size)
    (hQ : ∀ h', KdxSt h' it d S (i + 1) es.size ep → h'.get? s.heap.objs.size = some (pairOb es[i]) → h'.objs.size = s.heap.objs.size + 1 → (∀ b o, b ≠ it → s.heap.get? b = some o → h'.get? b = some o) → Q (some (.ref s.heap.objs.size)) { s with heap := h' }) :
    wpAny (model prog w) A (pyNext (.ref it)) Q E s := by
  rcases st with ⟨rfl, ok, ov, hit⟩ | ⟨ok, ov, a, f, oa, hit, ha, hai, haS⟩
  · exact wpAny_pyNext_items_item_raw hit hm hi fun h' q ht hz hk => hQ h' (.inr ⟨_, _, _, false, _, q, ht, Nat.ne_of_gt (Heap.lt_size hit), Nat.ne_of_gt hS⟩) ht hz hk
  · exact wpAny_pyNext_items_item_out_raw hit ha hai hm hi fun h' q ht hz hk => hQ h' (.inr ⟨ok, ov, a, true, oa, q, hk a oa hai ha, hai, haS⟩) ht hz hk
theorem raw_done {it d S : Addr} {i ep : Nat} {es : Array DictEntry} {Q : Option Value → Shared → Prop} (hh : A.handled = none) (st : KdxSt s.heap it d S i es.size ep) (hm : s.heap.DictRaw d es ep) (hi : es.size ≤ i)
    (hQ : ∀ h', Heap.ExtBut it s.heap h' → Q none { s with heap := h' }) : wpAny (model prog w) A (pyNext (.ref it)) Q E s := by
  rcases st with ⟨rfl, ok, ov, hit⟩ | ⟨ok, ov, a, f, oa, hit, _, _, _⟩
  · exact wpAny_pyNext_items_end_raw hh hit hm hi hQ
  · exact wpAny_pyNext_items_end_out_raw hh hit hm hi hQ
/-- the pairs that have been made -/
structure RawG (es : Array DictEntry) (lo : Addr) (h : Heap) (as : List Addr) : Prop where
  rise : as.Pairwise (· < ·)
  above : ∀ a ∈ as, lo < a
  made : ∀ (j : Nat) (a : Addr), as[j]? = some a → ∃ e, es[j]? = some e ∧ h.get? a = some (pairOb e)
theorem RawG.there {es : Array DictEntry} {lo : Addr} {h : Heap} {as : List Addr} (g : RawG es lo h as) {a : Addr} (ha : a ∈ as) : a < h.objs.size := by
  obtain ⟨j, hj⟩ := List.mem_iff_getElem?.mp ha
  obtain ⟨_, _, e⟩ := g.made j a hj
  exact Heap.lt_size e
theorem RawG.low {es : Array DictEntry} {lo lo' : Addr} {h : Heap} {as : List Addr} (g : RawG es lo h as) (hl : lo' ≤ lo) : RawG es lo' h as := ⟨g.rise, fun a ha => Nat.lt_of_le_of_lt hl (g.above a ha), g.made⟩
theorem RawG.more {es : Array DictEntry} {lo n : Addr} {h h' : Heap} {as : List Addr} (g : RawG es lo h as) (k : ∀ b o, b ∈ as → h.get? b = some o → h'.get? b = some o) (up : ∀ a ∈ as, a < n) (lon : lo < n) {e : DictEntry} (he : es[as.length]? = some e) (hn : h'.get? n = some (pairOb e)) : RawG es lo h' (as ++ [n]) := by
  refine ⟨List.pairwise_append.mpr ⟨g.rise, List.pairwise_singleton _ _, fun a ha b hb => by rw [List.mem_singleton.mp hb]; exact up a ha⟩, fun a ha => ?_, fun j b hj => ?_⟩
  · rcases List.mem_append.mp ha with ha | ha
    · exact g.above a ha
    · rw [List.mem_singleton.mp ha]; exact lon
  · rcases Nat.lt_trichotomy j as.length with h1 | h1 | h1
    · rw [List.getElem?_append_left h1] at hj
      obtain ⟨e', e1, e2⟩ := g.made j b hj
      exact ⟨e', e1, k _ _ (List.mem_of_getElem? hj) e2⟩
    · subst h1
      obtain rfl : n = b := by simpa using hj
      exact ⟨e, he, hn⟩
    · rw [List.getElem?_eq_none (by rw [List.length_append, List.length_singleton]; omega)] at hj
      cases hj
abbrev listOb (acc : Array Value) (c : Nat) : Obj := { cls := .type "list", dict := none, data := .seq acc c, slots := #[] }
theorem raw_loop {R : Result → Shared → Prop} {es : Array DictEntry} {ep : Nat} {S I d : Addr} (hh : A.handled = none) (hSI : S < I) (hSd : d ≠ S) (hId : d ≠ I) (hn : es.size ≤ sizeLine) (res : Value) {h₁ : Heap}
    (hR : ∀ h' tk acc c as, (∀ b o, b ≠ S → b ≠ I → h₁.get? b = some o → h'.get? b = some o) → h'.get? S = some (listOb acc c) → as.length = es.size → RawG es I h' as → acc.toList = as.map Value.ref → R (.ok (.ret res)) { s with heap := h', toks := tk }) :
    ∀ (k i : Nat) (h : Heap) (tk c : Nat) (acc : Array Value) (as : List Addr), es.size - i = k → i ≤ es.size → KdxSt h I d S i es.size ep → h.DictRaw d es ep → (∀ b o, b ≠ S → b ≠ I → h₁.get? b = some o → h.get? b = some o) →
      h.get? S = some (listOb acc c) → acc.toList = as.map Value.ref → as.length = i → RawG es I h as → I < h.objs.size →
      codeAny (model prog w) A (.builtin "list.extend.loop" ⟨[.ref S, .ref I, res], []⟩) R { s with heap := h, toks := tk } := by
  have hne : S ≠ I := Nat.ne_of_lt hSI
  intro k
  induction k with
  | zero =>
    intro i h tk c acc as hk hi st hD hkeep hS hacc hal hG hIs
    refine codeAny_builtin PySem.F.entry_extend_loop (by
      rw [Around.under_plainId PySem.F.plain_extend_loop _]
      show wpAny _ A.in1 (pyNext (.ref I) >>= _) _ _ _
      refine wpAny_bind (raw_done (s := { s with heap := h, toks := tk }) (A := A.in1) hh st hD (by omega) fun h' he => wpAny_pure (hR h' tk acc c as (fun b o h1 h2 e => he b o h2 (hkeep b o h1 h2 e)) (he S _ hne hS) (by omega) ⟨hG.rise, hG.above, fun j a hj => ?_⟩ hacc))
      obtain ⟨e', e1, e2⟩ := hG.made j a hj
      exact ⟨e', e1, he a _ (Nat.ne_of_gt (hG.above a (List.mem_of_getElem? hj))) e2⟩)
  | succ k ih =>
    intro i h tk c acc as hk hi st hD hkeep hS hacc hal hG hIs
    have hlt : i < es.size := by omega
    have hsz : acc.size = i := by rw [← Array.length_toList, hacc, List.length_map, hal]
    refine codeAny_builtin PySem.F.entry_extend_loop (by
      rw [Around.under_plainId PySem.F.plain_extend_loop _]
      show wpAny _ A.in1 (pyNext (.ref I) >>= _) _ _ _
      refine wpAny_bind (raw_item (s := { s with heap := h, toks := tk }) (S := S) st (Heap.lt_size hS) hD hlt fun h' st' ht hz hkp => ?_)
      dsimp only at ht hz hkp ⊢
      have hS' := hkp S _ hne hS
      have up : ∀ b o, b ≠ S → h'.get? b = some o → (h'.update S (Obj.mapSeq (·.push (Value.ref h.objs.size)))).get? b = some o := fun b o hb e => (Heap.get?_update_other _ _ (Ne.symm hb)).trans e
      have hSl : S < h.objs.size := Heap.lt_size hS
      show wpAny _ A.in1 (updateSeq S (·.push (Value.ref h.objs.size)) >>= _) _ _ _
      have ht' := up _ _ (Nat.ne_of_gt hSl) ht
      refine wpAny_bind (wpAny_updateSeq hS' rfl (wpAny_pure ⟨plainId_quiet PySem.F.plain_extend_loop _, ih (i + 1) _ tk _ (acc.push (Value.ref h.objs.size)) (as ++ [h.objs.size]) (by omega) hlt (st'.keep up (Ne.symm hne)) (hD.at fun o e => up d o hSd (hkp d o hId e))
        (fun b o h1 h2 e => up b o h1 (hkp b o h2 (hkeep b o h1 h2 e))) (Heap.get?_update_self _ hS' rfl) (by rw [Array.toList_push, hacc, List.map_append] <;> rfl) (by rw [List.length_append, hal] <;> rfl)
        (hG.more (fun b o hb e => up b o (Nat.ne_of_gt (Nat.lt_trans hSI (hG.above b hb))) (hkp b o (Nat.ne_of_gt (hG.above b hb)) e)) (fun a ha => hG.there ha) hIs (e := es[i]) (by rw [hal]; exact Array.getElem?_eq_getElem hlt) ht')
        (Nat.lt_trans hIs (Heap.lt_size ht'))⟩) (by rw [hsz]; omega) (by show (acc.push (Value.ref h.objs.size)).size ≤ sizeLine + 1; rw [Array.size_push, hsz]; omega)))
theorem raw_extend {R : Result → Shared → Prop} {r d S : Addr} {es : Array DictEntry} {ep : Nat} (hh : A.handled = none) (hv : s.heap.IsItemsView r d) (hm : s.heap.DictRaw d es ep) (hSr : S ≠ r) (hSd : d ≠ S) (res : Value) (c₀ : Nat) (hS : s.heap.get? S = some { cls := .type "list", data := .seq #[] c₀ })
    (hR : ∀ h' tk acc c as, (∀ b o, b ≠ S → s.heap.get? b = some o → h'.get? b = some o) → h'.get? S = some (listOb acc c) → as.length = es.size → RawG es s.heap.objs.size h' as → acc.toList = as.map Value.ref → R (.ok (.ret res)) { s with heap := h', toks := tk }) (hn : es.size ≤ sizeLine) :
    wpAny (model prog w) A.in1 (Builtin.List.listExtendWith (.ref S) (.ref r) res) (fun fin s' => match fin with | .done f => R (.ok f) s' | .again c' => c'.quiet = true ∧ codeAny (model prog w) A c' R s') (fun e s' => R (.error e) s') s := by
  have hSI : S < s.heap.objs.size := Heap.lt_size hS
  obtain ⟨od, hod, _⟩ := id hm
  have hdI : d < s.heap.objs.size := Heap.lt_size hod
  have key : ∀ (h : Heap) (c₁ tk : Nat), (∀ b o, b ≠ S → (s.heap.push { cls := .type "dict_itemiterator", data := .fields #[.none, .bool false, .ref d, .int 0 0, .int es.size 0, .int ep 0, .none, .none] }).get? b = some o → h.get? b = some o) →
      h.get? S = some { cls := .type "list", data := .seq #[] c₁ } → codeAny (model prog w) A (.builtin "list.extend.loop" ⟨[.ref S, .ref s.heap.objs.size, res], []⟩) R { s with heap := h, toks := tk } := fun h c₁ tk hk hS₁ => by
    have hI := hk s.heap.objs.size _ (Nat.ne_of_gt hSI) (Heap.get?_push_size _ rfl)
    exact raw_loop (s := s) (h₁ := s.heap) hh hSI hSd (Nat.ne_of_lt hdI) hn res (fun h' tk' acc c as hk' hS' hl hG hacc => hR h' tk' acc c as (fun b o hb e => hk' b o hb (Nat.ne_of_lt (Heap.lt_size e)) e) hS' hl hG hacc)
      es.size 0 h tk c₁ #[] [] (Nat.sub_zero _) (Nat.zero_le _) (.inl ⟨rfl, .none, .none, hI⟩) (hm.at fun o e => hk d o hSd (Heap.get?_push_of_some _ e)) (fun b o hb _ e => hk b o hb (Heap.get?_push_of_some _ e)) hS₁ rfl rfl
      ⟨List.Pairwise.nil, (fun _ ha => nomatch ha), (fun j a hj => by simp at hj)⟩ (Heap.lt_size hI)
  unfold Builtin.List.listExtendWith
  refine wpAny_bind (wpAny_typeOf (T := "dict_items") hv.typeIs ?_)
  have n1 : Builtin.List.listSameRef (.ref S) (.ref r) = false := by simp [Builtin.List.listSameRef, hSr]
  have n2 : (Value.type "dict_items" == Value.type "list") = false := by decide
  have n3 : (Value.type "dict_items" == Value.type "tuple") = false := by decide
  simp only [n1, n2, n3, Bool.or_false, Bool.false_eq_true, if_false]
  refine wpAny_bind (wpAny_pyIter_items_raw hv hm ?_)
  have hS₁ := Heap.get?_push_of_some { cls := .type "dict_itemiterator", data := .fields #[.none, .bool false, .ref d, .int 0 0, .int es.size 0, .int ep 0, .none, .none] } hS
  refine wpAny_bind (wpAny_holding (kdx_hint (let ⟨o, ho, hc, _⟩ := hv; ⟨o, Heap.get?_push_of_some _ ho, hc⟩) ?_))
  refine wpAny_ite_split (fun _ => wpAny_bind (wpAny_rule (wpAny_bind ?_))) (fun _ => wpAny_pure ⟨plainId_quiet PySem.F.plain_extend_loop _, key _ c₀ _ (fun b o _ e => e) hS₁⟩)
  show wpAny _ _ (updateSeq S (·.push .none) >>= fun _ => updateSeq S (·.pop)) _ _ _
  have hS₂ := Heap.get?_update_self (Obj.mapSeq (·.push Value.none)) hS₁ rfl
  have hS₃ := Heap.get?_update_self (Obj.mapSeq (·.pop)) hS₂ rfl
  exact wpAny_bind (wpAny_updateSeq hS₁ rfl (wpAny_updateSeq (hz := by seq_fits) hS₂ rfl (wpAny_pure ⟨plainId_quiet PySem.F.plain_extend_loop _, key _ _ _ (fun b o hb e => (Heap.get?_update_other _ _ (Ne.symm hb)).trans ((Heap.get?_update_other _ _ (Ne.symm hb)).trans e)) hS₃⟩)))
theorem raw_call {Q : Value → Shared → Prop} {r d : Addr} {es : Array DictEntry} {ep : Nat} (hh : A.handled = none) (hv : s.heap.IsItemsView r d) (hm : s.heap.DictRaw d es ep) (hn : es.size ≤ sizeLine)
    (hQ : ∀ h' tk acc c as, (∀ b o, s.heap.get? b = some o → h'.get? b = some o) → h'.get? s.heap.objs.size = some (listOb acc c) → as.length = es.size → RawG es s.heap.objs.size h' as → acc.toList = as.map Value.ref → Q (.ref s.heap.objs.size) { s with heap := h', toks := tk }) :
    wpAny (model prog w) A (call (.type "list") [.ref r]) Q E s := by
  refine callType_codes (Q₁ := fun obj s₁ => obj = .ref s.heap.objs.size ∧ s₁ = { s with heap := s.heap.push { cls := .type "list", data := .seq #[] } }) PySem.F.called_list (PySem.F.typeCall_list_1 _) PySem.F.entry_list_init (code_list_new _ ⟨rfl, rfl⟩) fun obj s₁ h₁ => ?_
  obtain ⟨rfl, rfl⟩ := h₁
  have hS : (s.heap.push { cls := .type "list", data := .seq #[] }).get? s.heap.objs.size = some { cls := .type "list", data := .seq #[] } := Heap.get?_push_size _ rfl
  obtain ⟨ov, hov, xv⟩ := id hv
  obtain ⟨od, hod, xd⟩ := id hm
  refine ⟨⟨_, hS, rfl⟩, PySem.F.args_list_init_2 _ _, ?_⟩
  show wpAny _ _ (do let old ← Builtin.List.listItems (.ref s.heap.objs.size); Builtin.List.listUpdate (.ref s.heap.objs.size) (fun _ => #[]); letGo old.toList.reverse; Builtin.List.listExtendWith (.ref s.heap.objs.size) (.ref r) .none) _ _ _
  refine wpAny_bind (by
    unfold Builtin.List.listItems
    refine wpAny_bind (wpAny_seqItems hS rfl (wpAny_pure ?_))
    show wpAny _ _ (updateSeq s.heap.objs.size (fun _ => #[]) >>= fun _ => letGo (#[] : Array Value).toList.reverse >>= fun _ => Builtin.List.listExtendWith (.ref s.heap.objs.size) (.ref r) .none) _ _ _
    have hS₂ := Heap.get?_update_self (Obj.mapSeq (fun _ => (#[] : Array Value))) hS rfl
    have oth : ∀ b o, b ≠ s.heap.objs.size → (s.heap.push { cls := .type "list", data := .seq #[] }).get? b = some o → ((s.heap.push { cls := .type "list", data := .seq #[] }).update s.heap.objs.size (Obj.mapSeq (fun _ => (#[] : Array Value)))).get? b = some o := fun b o hb e => (Heap.get?_update_other _ _ (Ne.symm hb)).trans e
    have ne : ∀ {b : Addr} {o : Obj}, s.heap.get? b = some o → b ≠ s.heap.objs.size := fun e => Nat.ne_of_lt (Heap.lt_size e)
    refine wpAny_bind (wpAny_updateSeq hS rfl (wpAny_bind (wpAny_letGo ?_)))
    refine raw_extend (A := A.in1) hh ⟨ov, oth r ov (ne hov) (Heap.get?_push_of_some _ hov), xv⟩ ⟨od, oth d od (ne hod) (Heap.get?_push_of_some _ hod), xd⟩ (Ne.symm (ne hov)) (ne hod) .none _ hS₂ (fun h' tk acc c as hk hS' hl hG hacc => ?_) hn
    exact ⟨rfl, hQ h' tk acc c as (fun b o e => hk b o (ne e) (oth b o (ne e) (Heap.get?_push_of_some _ e))) hS' hl (hG.low (Nat.le_of_lt (Heap.lt_size hS₂))) hacc⟩)
end
end Yt

set_option Elab.async false
set_option linter.all false
set_option maxRecDepth 100000
set_option maxHeartbeats 2000000
namespace Yt
open PySem PySem.Spec PyProof.Rows L2
/-- these tuples, each at its address -/
def putTs : Hp → List Addr → List (List V) → Hp
  | H, a :: as, x :: xs => putTs (upd H a (.tup x)) as xs
  | H, _, _ => H
theorem putTs_off {b : Addr} : ∀ (as : List Addr) (xs : List (List V)) (H : Hp), b ∉ as → putTs H as xs b = H b
  | [], _, _, _ => rfl
  | _ :: _, [], _, _ => rfl
  | a :: as, x :: xs, H, h => by
    obtain ⟨h1, h2⟩ := not_or.mp (fun z => h (List.mem_cons.mpr z))
    rw [putTs, putTs_off as xs _ h2, upd_ne h1]
theorem putTs_at : ∀ (as : List Addr) (xs : List (List V)) (H : Hp), as.length = xs.length → as.Nodup → ∀ {j : Nat} {a : Addr}, as[j]? = some a → ∃ x, xs[j]? = some x ∧ putTs H as xs a = some (.tup x)
  | [], _, _, _, _, j, a, e => by simp at e
  | _ :: _, [], _, h, _, _, _, _ => by cases h
  | b :: as, x :: xs, H, h, hn, j, a, e => by
    obtain ⟨n1, n2⟩ := List.nodup_cons.mp hn
    cases j with
    | zero =>
      cases Option.some.inj e
      exact ⟨x, rfl, by rw [putTs, putTs_off as xs _ n1, upd_same]⟩
    | succ j =>
      obtain ⟨y, e1, e2⟩ := putTs_at as xs (upd H b (.tup x)) (Nat.succ.inj h) n2 (j := j) (by simpa using e)
      exact ⟨y, by simpa using e1, e2⟩
/-- the pairs of a dictionary, each a new tuple; its key is a tuple that stands -/
def rItemsLT : V → Hp → VK → Prop := fun x H Q => ∃ (d : Addr) (kvs : List (List Key × V)), x = .ref d ∧ H d = some (.dT kvs) ∧
  ∀ (H' : Hp) (p : Addr) (ts : List Addr), Same H H' → H p = none → H' p = some (.lst (ts.map V.ref)) → Paired (fun (t : Addr) (q : List Key × V) => H t = none ∧ ∃ b, H b = some (.tup (q.1.map kV)) ∧ H' t = some (.tup [.ref b, q.2])) ts kvs → Q (.ref p) H'
def tListItemsT (te : TE) : TE := fun σ H Q => te σ H fun x H1 => rItemsLT x H1 Q
theorem paired_of {α β : Type} {R : α → β → Prop} : ∀ {xs : List α} {ys : List β}, xs.length = ys.length → (∀ (j : Nat) (x : α) (y : β), xs[j]? = some x → ys[j]? = some y → R x y) → Paired R xs ys
  | [], [], _, _ => .nil
  | [], _ :: _, h, _ => by cases h
  | _ :: _, [], h, _ => by cases h
  | x :: xs, y :: ys, h, k => .cons (k 0 x y rfl rfl) (paired_of (Nat.succ.inj h) fun j a b e1 e2 => k (j + 1) a b (by simpa using e1) (by simpa using e2))
section
variable {X : Cx} {e : Expr} {te : TE} {p apos cpos pos : Pos}
theorem laidT {pins : List (Addr × Obj)} {σ : L2.St} {H : Hp} {s : Shared} {h' : Heap} {tk : Nat} {es : Array DictEntry} {xs : List (List V)} {acc : Array Value} {c : Nat} {as : List Addr} (I : Inv X pins σ H s) (hz : es.size ≤ sizeLine) (lx : xs.length = es.size)
    (hx : ∀ (j : Nat) (x : List V) (en : DictEntry), xs[j]? = some x → es[j]? = some en → ∃ b v, x = [.ref b, v] ∧ en.key = .ref b ∧ RelV v en.val)
    (hk : ∀ b o, s.heap.get? b = some o → h'.get? b = some o) (hS : h'.get? s.heap.objs.size = some (listOb acc c)) (hl : as.length = es.size) (hG : RawG es s.heap.objs.size h' as) (hacc : acc.toList = as.map Value.ref) :
    ∃ H' : Hp, Same H H' ∧ H s.heap.objs.size = none ∧ H' s.heap.objs.size = some (.lst (as.map V.ref)) ∧ (∀ t ∈ as, H t = none) ∧ (∀ (j : Nat) (t : Addr), as[j]? = some t → ∃ x, xs[j]? = some x ∧ H' t = some (.tup x)) ∧ Inv X pins σ H' { s with heap := h', toks := tk } := by
  have hSn : s.heap.objs.size ∉ as := fun z => Nat.lt_irrefl _ (hG.above _ z)
  have nd : as.Nodup := List.Pairwise.imp (fun {a b} (h : a < b) => Nat.ne_of_lt h) hG.rise
  have new : ∀ t ∈ as, H t = none := fun t ht => I.hok.fresh (Nat.le_of_lt (hG.above t ht))
  have newS : H s.heap.objs.size = none := I.hok.fresh (Nat.le_refl _)
  generalize eJ : putTs (upd H s.heap.objs.size (.lst (as.map V.ref))) as xs = J
  have atP : ∀ (j : Nat) (t : Addr), as[j]? = some t → ∃ x, xs[j]? = some x ∧ J t = some (.tup x) := fun j t e => by
    rw [← eJ]
    exact putTs_at as xs _ (by omega) nd e
  have off : ∀ b, b ∉ as → b ≠ s.heap.objs.size → J b = H b := fun b h1 h2 => by rw [← eJ, putTs_off as xs _ h1, upd_ne h2]
  have low : ∀ b o, s.heap.get? b = some o → b ∉ as ∧ b ≠ s.heap.objs.size := fun b o e => ⟨fun z => absurd (Heap.lt_size e) (Nat.not_lt.mpr (Nat.le_of_lt (hG.above b z))), Nat.ne_of_lt (Heap.lt_size e)⟩
  have kp : Same H J := fun b u q => by
    rw [off b (fun z => by rw [new b z] at q; cases q) (fun z => by rw [z, newS] at q; cases q)]
    exact q
  have eS : J s.heap.objs.size = some (.lst (as.map V.ref)) := by rw [← eJ, putTs_off as xs _ hSn, upd_same]
  refine ⟨J, kp, newS, eS, new, atP, I.call' (ch := []) rfl ⟨fun b o q _ _ _ => hk b o q, fun b o q _ _ _ => ⟨o.slots, hk b o q⟩, fun b o q n _ => by
    obtain ⟨z1, z2⟩ := low b o q
    rw [off b z1 z2]
    exact n, fun b o q _ => ⟨o, hk b o q⟩, fun b xs q => kp b _ q, fun b o u q => kp b _ q, fun b ps q => ⟨#[], by rw [kp b _ q]; simp⟩⟩ (fun b u q => ?_) I.bare fun b z => by simp at z⟩
  by_cases hb : b ∈ as
  · obtain ⟨j, ej⟩ := List.mem_iff_getElem?.mp hb
    obtain ⟨x, e1, e2⟩ := atP j b ej
    rw [e2] at q
    cases q
    obtain ⟨en, f1, f2⟩ := hG.made j b ej
    obtain ⟨kb, v, rfl, g2, g3⟩ := hx j x en e1 f1
    exact ⟨by show 2 ≤ sizeLine; decide, [en.key, en.val], .cons (by rw [g2]; exact rfl) (.cons g3 .nil), ⟨_, f2, rfl, _, rfl⟩⟩
  · by_cases hb2 : b = s.heap.objs.size
    · rw [hb2] at q ⊢
      rw [eS] at q
      cases q
      refine ⟨by rw [List.length_map]; omega, acc.toList, c, by rw [hacc]; exact LiI.vals_refs as, ?_⟩
      rw [Array.toArray_toList]
      exact hS
    · rw [off b hb hb2] at q
      exact (I.hok b u q).stay (fun d v _ y => hk d v y) (fun d y => kp d _ y) fun d xs y => kp d _ y
/-- list(e.items()) of a dictionary whose keys are tuples -/
theorem pe_listItemsT (hc : X.calm = true) (he : PE X e te) (hg : Gl X "list") (hm : X.mg "list" = none) (hv : bootBuiltins "list" = some (.type "list")) (hbase : attributeBase e "items" X.env (eval e X.env) = eval e X.env := by rfl) (hline : (apos.endLine == cpos.line) = true := by rfl)
    (hs : starEach [.Call (.Attribute e "items" apos) [] [] cpos] X.env = (false, eval (.Call (.Attribute e "items" apos) [] [] cpos) X.env) :: starEach [] X.env := by rfl) :
    PE X (.Call (.Name "list" p) [.Call (.Attribute e "items" apos) [] [] cpos] [] pos) (tListItemsT te) := by
  refine ⟨fun pins s σ H Q I hq => wpAny_Call_Name_kw (ld_blt I hg hm hv (PyProof.Rows.callWith_type1 (by
    rw [hs]
    show wpAny _ _ (spliced ((false, eval (.Call (.Attribute e "items" apos) [] [] cpos) X.env) :: backTo pos (starEach [] X.env))) _ _ s
    refine Calls.spliced_cons (wpAny_Call_method (T := "dict") (id := "dict.items") hbase rfl hline F.plainAttrs_dict F.slot_dict_items F.type_dict_items (thn (he.run pins s σ H _ I hq) fun u s1 ⟨x, H1, I1, rx, d, kvs, ex, hd, q⟩ => ?_))
    subst ex
    obtain rfl : u = Value.ref d := rx
    obtain ⟨hz, hs0, ks, pr, od, es, ep, ho, hx, hdt, hes, hn⟩ := (show ObjOk X.prog X.w H1 s1.heap d (.dT kvs) from I1.hok d _ hd)
    have raw : s1.heap.DictRaw d es ep := ⟨od, ho, hx, hdt⟩
    have l1 : es.size = ks.length := size_of_entries hes
    have l2 : kvs.length = ks.length := Paired.length pr
    have I2 : Inv X pins σ H1 { s1 with heap := s1.heap.push { cls := .type "dict_items", data := .fields #[.ref d] } } := I1.kept (t' := s1.toks) fun b ob q => Heap.get?_push_of_some _ q
    refine ⟨⟨od, ho, hx.1⟩, (fun a e => by cases e; exact ⟨od, ho, hx.2.1⟩), ?_⟩
    show wpAny _ _ (callWith cpos (.builtin "dict.items") [.ref d] [] []) _ X.xe s1
    refine method_meetsIn F.slot_dict_items F.entry_dict_items rfl (PySem.evalArgs_none ⟨rfl, ⟨od, ho, hx.1⟩, F.args_dict_items_1 _, _, meets_dict_items_raw d hs0, ⟨_, _, raw⟩, Calls.spliced_nil ?_⟩)
    refine raw_call (es := es) (ep := ep) (I1.ok.hd hc) ⟨_, Heap.get?_push_size _ rfl, rfl, rfl⟩ ⟨od, Heap.get?_push_of_some _ ho, hx, hdt⟩ (by omega) fun h' tk acc c as hk hS hl hG hacc => ?_
    have ent : ∀ (j : Nat) (q : List Key × V), kvs[j]? = some q → ∃ en b, es[j]? = some en ∧ en.key = .ref b ∧ H1 b = some (.tup (q.1.map kV)) ∧ RelV q.2 en.val := fun j q ej => by
      obtain ⟨b, hb, e1, e2, e3⟩ := L2.paired_get pr ej
      exact ⟨_, b.2.1, by rw [entry_at hes, hb] <;> rfl, rfl, e2, e3⟩
    obtain ⟨xs, hxs⟩ : ∃ xs : List (List V), Paired (fun (x : List V) (q : List Key × V) => ∃ b, x = [.ref b, q.2] ∧ H1 b = some (.tup (q.1.map kV))) xs kvs ∧ ∀ (j : Nat) (x : List V) (en : DictEntry), xs[j]? = some x → es[j]? = some en → ∃ b v, x = [.ref b, v] ∧ en.key = .ref b ∧ RelV v en.val := by
      refine ⟨(ks.zip kvs).map fun z => [.ref z.1.2.1, z.2.2], paired_of (by rw [List.length_map, List.length_zip]; omega) fun j x q e1 e2 => ?_, fun j x en e1 e2 => ?_⟩
      · rw [List.getElem?_map] at e1
        obtain ⟨z, ez, rfl⟩ := Option.map_eq_some_iff.mp e1
        obtain ⟨b, hb, f1, f2, f3⟩ := L2.paired_get pr e2
        rw [List.getElem?_zip_eq_some] at ez
        rw [hb] at ez
        rw [e2] at ez
        refine ⟨b.2.1, ?_, f2⟩
        rw [← Option.some.inj ez.1, ← Option.some.inj ez.2]
      · rw [List.getElem?_map] at e1
        obtain ⟨z, ez, rfl⟩ := Option.map_eq_some_iff.mp e1
        rw [List.getElem?_zip_eq_some] at ez
        obtain ⟨b, hb, f1, f2, f3⟩ := L2.paired_get pr ez.2
        rw [hb] at ez
        have eb := Option.some.inj ez.1
        rw [entry_at hes, hb] at e2
        have e3 : en = entryOfKey (tupleKind (mixKind X.prog X.w)) b := (Option.some.inj e2).symm
        refine ⟨b.2.1, z.2.2, by rw [← eb], by rw [e3] <;> rfl, by rw [e3]; exact f3⟩
    obtain ⟨H', k1, k2, k3, k4, k5, J⟩ := laidT (tk := tk) (xs := xs) I2 (by omega) (by rw [Paired.length hxs.1]; omega) hxs.2 (fun b o e => hk b o e) hS hl hG hacc
    refine ⟨.ref _, H', J, rfl, q H' _ as k1 k2 k3 (paired_of (by omega) fun j t qv e1 e2 => ⟨k4 t (List.mem_of_getElem? e1), ?_⟩)⟩
    obtain ⟨x, f1, f2⟩ := k5 j t e1
    obtain ⟨qv', h1, b, g2, g3⟩ := L2.paired_get hxs.1 f1
    rw [e2] at h1
    cases h1
    exact ⟨b, g3, by rw [f2, g2]⟩) hs rfl))⟩
end
end Yt

set_option Elab.async false
set_option linter.all false
set_option maxRecDepth 100000
set_option maxHeartbeats 2000000
namespace Yt
open PySem PySem.Spec PyProof.Rows L2
/-! ### a dictionary whose keys are rows -/
def DR (F : List (List Str)) : List (List Key × V) := F.map fun r => (kR r, V.bl true)
theorem DR_keys (F : List (List Str)) : (DR F).map (·.1) = F.map kR := by
  unfold DR
  rw [List.map_map]
  rfl
theorem DR_len (F : List (List Str)) : (DR F).length = F.length := List.length_map _
theorem mem_kR {F : List (List Str)} {r : List Str} : kR r ∈ F.map kR ↔ r ∈ F := by
  constructor
  · intro h
    obtain ⟨u, hu, e⟩ := List.mem_map.mp h
    rw [← kR_inj e]
    exact hu
  · exact fun h => List.mem_map.mpr ⟨r, h, rfl⟩
def addR (F : List (List Str)) (r : List Str) : List (List Str) := if r ∈ F then F else F ++ [r]
theorem addR_mem {F : List (List Str)} {r u : List Str} : u ∈ addR F r ↔ u ∈ F ∨ u = r := by
  unfold addR
  split
  · rename_i h
    exact ⟨.inl, fun q => q.elim id fun e => by rw [e]; exact h⟩
  · rw [List.mem_append, List.mem_singleton]
theorem addR_nodup {F : List (List Str)} {r : List Str} (h : F.Nodup) : (addR F r).Nodup := by
  unfold addR
  split
  · exact h
  · rename_i c
    rw [List.nodup_append]
    exact ⟨h, List.pairwise_singleton _ _, fun a ha b hb e => c (by rw [← List.mem_singleton.mp hb, ← e]; exact ha)⟩
theorem DR_any {F : List (List Str)} {r : List Str} : ((DR F).any fun kv => decide (kv.1 = kR r)) = decide (r ∈ F) := by
  unfold DR
  rw [List.any_map]
  by_cases c : r ∈ F
  · rw [decide_eq_true c]
    exact List.any_eq_true.mpr ⟨r, c, decide_eq_true rfl⟩
  · rw [decide_eq_false c]
    exact List.any_eq_false.mpr fun u hu z => c (by rw [← kR_inj (of_decide_eq_true z)]; exact hu)
theorem putDR (F : List (List Str)) (r : List Str) : putK (DR F) (kR r) (V.bl true) = DR (addR F r) := by
  unfold addR
  by_cases c : r ∈ F
  · rw [if_pos c]
    unfold putK
    rw [if_pos (DR_any.trans (decide_eq_true c))]
    unfold DR
    rw [List.map_map]
    refine List.map_congr_left fun u _ => ?_
    show (if kR u = kR r then (kR u, V.bl true) else (kR u, V.bl true)) = _
    split <;> rfl
  · rw [if_neg c, putK_new (by rw [DR_keys, mem_kR]; exact c)]
    unfold DR
    rw [List.map_append]
    rfl
theorem DR_get {F : List (List Str)} {r : List Str} : (valV (DR F) (kR r)).isSome = decide (r ∈ F) := by
  rw [← valV_any]
  exact DR_any
theorem nodup_kR {F : List (List Str)} (h : F.Nodup) : (F.map kR).Nodup := List.pairwise_map.mpr (List.Pairwise.imp (fun {a b} n e => n (kR_inj e)) h)
theorem rows_few {ms : List Str} {n : Nat} {F : List (List Str)} (R : RowsOk ms n F) (nd : F.Nodup) (few : ms.length ≤ 3) (n4 : n ≤ 4) : F.length ≤ 81 := by
  have := nodup_few F (rowsN ms n) nd fun u hu => (rowsN_mem ms n u).mpr (R u hu)
  rw [rowsN_len] at this
  exact Nat.le_trans this (Nat.le_trans (Nat.pow_le_pow_left few _) (Nat.le_trans (Nat.pow_le_pow_right (by decide) n4) (by decide)))
end Yt

set_option Elab.async false
set_option linter.all false
set_option maxRecDepth 100000
set_option maxHeartbeats 2000000
namespace Yt
open PySem PySem.Spec PyProof.Rows L2
abbrev sLRow : Stmt := top 53
abbrev sLDrawn : Stmt := top 54
theorem PurseAt.at_ne {H : Hp} {p D : Addr} {f : Nat} {o : HO} (h : PurseAt H p f) (n : D ≠ p) : PurseAt (upd H D o) p f := by
  obtain ⟨x, y, c, t, e, h1⟩ := h
  exact ⟨x, y, c, t, by rw [upd_ne n.symm]; exact e, h1⟩
theorem PurseAt.ne {H : Hp} {p D : Addr} {f : Nat} (h : PurseAt H p f) (hD : H D = none) : D ≠ p := fun z => by
  obtain ⟨x, y, c, t, e, _⟩ := h
  rw [z, e] at hD
  cases hD
theorem But.none {p D : Addr} {H H' : Hp} (b : But p H H') (n : D ≠ p) (hD : H' D = none) : H D = none := by
  cases e : H D with
  | none => rfl
  | some o =>
    rw [b D o n e] at hD
    cases hD
section
variable {P : Program} {w : World} {K : PySem.W.Frag} {mg : Str → Option Value} {base : Heap} {f : Addr} {fd : FuncData} {C : Addr}
theorem scLRow : FnScope ["_law_purse_here", "_law_marks_here", "_law_width", "_law_position"] ["_law_purse_here", "_law_marks_here", "_law_width"] (defScope sLRow) := ⟨rfl, rfl, rfl, by decide +kernel, rfl, by decide +kernel, by decide +kernel⟩
def spLRow : Sp := fun vs H Q _ => ∃ (p a : Addr) (g d : Nat) (ms : List Str), vs = [.ref p, .ref a, .int ((d + 1 : Nat) : Int)] ∧ PurseAt H p (g + 4) ∧ H a = some (.lst (ms.map V.str)) ∧ a ≠ p ∧ 0 < ms.length ∧ ms.length ≤ 5 ∧ d ≤ 3 ∧
  ∀ (t : Addr) (r : List Str) (H' : Hp), r.length = d + 1 → (∀ z ∈ r, z ∈ ms) → t ≠ p → H' t = some (.tup (r.map V.str)) → PurseAt H' p g → But p H H' → Q (.ref t) H'
theorem ok_lrow {fO : Addr} {dO : FuncData} (F : FnP K "_law_row" sLRow f fd) (T : Nm mg) (T6 : Nm6 mg)
    (GO : FnOk P w K mg base CX0 3 fO dO ["_law_purse_here", "_law_some"] (spOne K)) (bO : Binds K dO ["_law_purse_here", "_law_some"] []) (kO : PySem.W.keepIn K (.ref fO) = true) (gO : mg "_law_one_of" = some (.ref fO)) :
    FnOk P w K mg base CX0 4 f fd ["_law_purse_here", "_law_marks_here", "_law_width"] spLRow := by
  refine F.ok scLRow (fun vs H Q E h => ?_) (fun cdv A outer s H vs Q E hr h => ?_)
  · obtain ⟨p, a, g, d, ms, rfl, _⟩ := h
    rfl
  · obtain ⟨p, a, g, d, ms, rfl, hP, ha, ne, l0, l3, d3, k⟩ := h
    refine ⟨_, PSs.nox (pss_one (ps_ret (pe_callTy call_tuple_of (by rfl) T6.tuple (by decide +kernel) (pa_cons
      (pe_lc (own := [("_law_position", 3)]) (g := gName 3) (tt := tYes) rfl scLRow.nd (pi_range1 rfl T.range (pa_cons (pv 2) pa_nil)) (blkOk_by (own := [("_law_position", 3)]) (N := ["_law_purse_here", "_law_marks_here", "_law_width", "_law_position"]) (sc := defScope sLRow) (by decide +kernel))
        (fun _ _ _ _ _ => pg_name (i := 3) scLRow.nd rfl (Or.inl rfl)) (fun _ _ _ _ _ => pts_nil)
        (fun _ _ _ _ _ => pe_call GO (hr.mono (by decide)) rfl gO kO bO .nil pass0 (pa_cons (pv 0) (pa_cons (pv 1) pa_nil)))) pa_nil)))), ?_⟩
    refine ⟨_, rfl, _, rfl, by omega, by omega, fun D hD => ?_⟩
    have nD := hP.ne hD
    refine lc_range (lo := 0) (n := d + 1) (fun i Hx => ∃ ys : List Str, ys.length = i ∧ (∀ z ∈ ys, z ∈ ms) ∧ Hx D = some (.lst (ys.map V.str)) ∧ PurseAt Hx p (g + 4 - i) ∧ But p H Hx) ⟨[], rfl, (fun z hz => nomatch hz), upd_same, hP.at_ne nD, Same.but (same_new hD)⟩ ?_ ?_
    · rintro i H3 hi ⟨ys, hl, hs, hDy, hP3, hB3⟩
      have e1 : g + 4 - i = g + 4 - (i + 1) + 1 := by omega
      rw [e1] at hP3
      refine ⟨rfl, ?_⟩
      refine ⟨_, rfl, _, rfl, p, a, g + 4 - (i + 1), ms.map V.str, rfl, hP3, SqL.of (hB3 _ _ ne ha), ne, by rw [List.length_map]; omega, fun j x H4 hj hP4 hB4 => ?_⟩
      rw [List.getElem?_map] at hj
      obtain ⟨z, hz, rfl⟩ := Option.map_eq_some_iff.mp hj
      refine ⟨_, hB4 _ _ nD hDy, by rw [List.length_map]; exact len_ok (by omega), ys ++ [z], by rw [List.length_append, hl]; rfl, ?_, by rw [upd_same, List.map_append]; rfl, hP4.at_ne nD, fun b o nb q => (upd_ne (ne_of_none q hD)).trans (hB4 _ _ nb (hB3 _ _ nb q))⟩
      intro y hy
      rcases List.mem_append.mp hy with q | q
      · exact hs y q
      · rw [List.mem_singleton.mp q]
        exact List.mem_of_getElem? hz
    · rintro Hx ⟨ys, hl, hs, hDy, hPx, hBx⟩
      refine ⟨D, ys.map V.str, rfl, .inl ⟨SqL.of hDy, fun t nt => ?_⟩⟩
      have nt' := hPx.ne nt
      exact k t ys _ hl hs nt' upd_same ((hPx.less (by omega)).at_ne nt') fun b o nb q => same_new nt _ _ (hBx _ _ nb q)
end
end Yt

set_option Elab.async false
set_option linter.all false
set_option maxRecDepth 100000
set_option maxHeartbeats 2000000
namespace Yt
open PySem PySem.Spec PyProof.Rows L2
theorem putK_keys {κ : Type} [DecidableEq κ] (m : List (κ × V)) (k : κ) (v : V) : (putK m k v).map (·.1) = if k ∈ m.map (·.1) then m.map (·.1) else m.map (·.1) ++ [k] := by
  unfold putK
  by_cases c : k ∈ m.map (·.1)
  · obtain ⟨e, he, er⟩ := List.mem_map.mp c
    rw [if_pos (List.any_eq_true.mpr ⟨e, he, decide_eq_true er⟩), if_pos c, List.map_map]
    refine List.map_congr_left fun x _ => ?_
    show (if x.1 = k then (x.1, v) else x).1 = x.1
    by_cases h : x.1 = k
    · rw [if_pos h]
    · rw [if_neg h]
  · rw [if_neg (fun z => by
      obtain ⟨e, he, er⟩ := List.any_eq_true.mp z
      exact c (List.mem_map.mpr ⟨e, he, of_decide_eq_true er⟩)), if_neg c, List.map_append]
    rfl
theorem merge_keys (l : List (List Key × V)) : ∀ m : List (List Key × V), (m.map (·.1)).Nodup → ((mergeT m l).map (·.1)).Nodup ∧ ∀ k, k ∈ (mergeT m l).map (·.1) ↔ k ∈ m.map (·.1) ∨ k ∈ l.map (·.1) := by
  induction l with
  | nil => exact fun m nd => ⟨nd, fun k => by simp [mergeT]⟩
  | cons e l ih =>
    intro m nd
    have ek := putK_keys m e.1 e.2
    have nd' : ((putK m e.1 e.2).map (·.1)).Nodup := by
      rw [ek]
      by_cases c : e.1 ∈ m.map (·.1)
      · rw [if_pos c]
        exact nd
      · rw [if_neg c, List.nodup_append]
        exact ⟨nd, List.pairwise_singleton _ _, fun a ha b hb h => c (by rw [← List.mem_singleton.mp hb, ← h]; exact ha)⟩
    obtain ⟨i1, i2⟩ := ih (putK m e.1 e.2) nd'
    refine ⟨i1, fun k => (i2 k).trans ?_⟩
    rw [ek, List.map_cons, List.mem_cons]
    by_cases c : e.1 ∈ m.map (·.1)
    · rw [if_pos c]
      constructor
      · exact fun h => h.elim .inl fun h => .inr (.inr h)
      · rintro (h | rfl | h)
        · exact .inl h
        · exact .inl c
        · exact .inr h
    · rw [if_neg c, List.mem_append, List.mem_singleton]
      constructor
      · rintro ((h | h) | h)
        · exact .inl h
        · exact .inr (.inl h)
        · exact .inr (.inr h)
      · rintro (h | h | h)
        · exact .inl (.inl h)
        · exact .inl (.inr h)
        · exact .inr h
theorem paired_maps {α β γ : Type} {R : β → γ → Prop} {f : α → β} {g : α → γ} : ∀ {l : List α}, (∀ e ∈ l, R (f e) (g e)) → Paired R (l.map f) (l.map g)
  | [], _ => .nil
  | e :: l, h => .cons (h e (List.mem_cons_self ..)) (paired_maps fun x hx => h x (List.mem_cons_of_mem _ hx))
section
variable {P : Program} {w : World} {K : PySem.W.Frag} {mg : Str → Option Value} {base : Heap} {f : Addr} {fd : FuncData} {C : Addr}
theorem scLDrawn : FnScope ["_law_purse_here", "_law_marks_here", "_law_width", "_law_most", "_law_turn"] ["_law_purse_here", "_law_marks_here", "_law_width", "_law_most"] (defScope sLDrawn) := ⟨rfl, rfl, rfl, by decide +kernel, rfl, by decide +kernel, by decide +kernel⟩
def spLDrawn : Sp := fun vs H Q _ => ∃ (p a : Addr) (g d b : Nat) (ms : List Str), vs = [.ref p, .ref a, .int ((d + 1 : Nat) : Int), .int ((b : Nat) : Int)] ∧ b ≤ 7 ∧ PurseAt H p (g + (4 * b + 1)) ∧ H a = some (.lst (ms.map V.str)) ∧ a ≠ p ∧ 0 < ms.length ∧ ms.length ≤ 5 ∧ d ≤ 3 ∧
  ∀ (L : Addr) (M : List (Addr × List Str)) (H' : Hp), H L = none → H' L = some (.lst (M.map fun e => V.ref e.1)) → RowsIn H' d M → Up (M.map (·.2)) → M.length ≤ b → (∀ e ∈ M, ∀ z ∈ e.2, z ∈ ms) → (∀ e ∈ M, e.1 ≠ p) → PurseAt H' p g → But p H H' → Q (.ref L) H'
theorem ok_ldrawn {fR fD : Addr} {dR dD : FuncData} (F : FnP K "_law_drawn_rows" sLDrawn f fd) (T : Nm mg) (T6 : Nm6 mg) (hso : mg "sorted" = none)
    (GR : FnOk P w K mg base CX0 4 fR dR ["_law_purse_here", "_law_marks_here", "_law_width"] spLRow) (bR : Binds K dR ["_law_purse_here", "_law_marks_here", "_law_width"] []) (kR' : PySem.W.keepIn K (.ref fR) = true) (gR : mg "_law_row" = some (.ref fR))
    (GD : FnOk P w K mg base CX0 2 fD dD ["_law_purse_here", "_law_many"] spDraw) (bD : Binds K dD ["_law_purse_here", "_law_many"] []) (kD : PySem.W.keepIn K (.ref fD) = true) (gD : mg "_law_draw" = some (.ref fD)) :
    FnOk P w K mg base CX0 5 f fd ["_law_purse_here", "_law_marks_here", "_law_width", "_law_most"] spLDrawn := by
  refine F.ok scLDrawn (fun vs H Q E h => ?_) (fun cdv A outer s H vs Q E hr h => ?_)
  · obtain ⟨p, a, g, d, b, ms, rfl, _⟩ := h
    rfl
  · obtain ⟨p, a, g, d, b, ms, rfl, b7, hP, ha, ne, l0, l3, d3, k⟩ := h
    have hu4 := units4 hr
    refine ⟨_, PSs.nox (pss_one (ps_ret (pe_callB (cr_sortDict rfl hu4) (by rfl) hso (by decide +kernel) (pa_cons (pe_callTy (call_dictPT rfl (units_le hu4 (by decide))) (by rfl) T6.dict (by decide +kernel) (pa_cons
      (pe_lc (own := [("_law_turn", 4)]) (g := gName 4) (tt := tYes) rfl scLDrawn.nd (pi_range1 rfl T.range (pa_cons (pe_call GD (hr.mono (by decide)) rfl gD kD bD .nil pass0 (pa_cons (pv 0) (pa_cons (pe_op op_add (pv 3) pe_int) pa_nil))) pa_nil)) (blkOk_by (own := [("_law_turn", 4)]) (N := ["_law_purse_here", "_law_marks_here", "_law_width", "_law_most", "_law_turn"]) (sc := defScope sLDrawn) (by decide +kernel))
        (fun _ _ _ _ _ => pg_name (i := 4) scLDrawn.nd rfl (Or.inl rfl)) (fun _ _ _ _ _ => pts_nil)
        (fun _ _ _ _ _ => pe_tup (pa_cons (pe_call GR (hr.mono (by decide)) rfl gR kR' bR .nil pass0 (pa_cons (pv 0) (pa_cons (pv 1) (pa_cons (pv 2) pa_nil)))) (pa_cons pe_bl pa_nil)))) pa_nil)) pa_nil)))), ?_⟩
    refine ⟨_, rfl, _, rfl, _, _, rfl, rfl, p, g + 4 * b, _, rfl, hP, ⟨by omega, by omega⟩, fun r H1 r0 r1 hP1 hB1 => ?_⟩
    have r5 : r < (b : Int) + 1 := r1
    refine ⟨_, rfl, by omega, by omega, fun D hD => ?_⟩
    have nD := hP1.ne hD
    obtain ⟨n, hn⟩ : ∃ n : Nat, r.toNat = n := ⟨_, rfl⟩
    have n4 : n ≤ b := by omega
    rw [hn]
    refine lc_range (lo := 0) (n := n) (fun i Hx => ∃ W : List (Addr × Addr × List Str), W.length = i ∧ Hx D = some (.lst (W.map fun e => V.ref e.1)) ∧ (∀ e ∈ W, (e.1 ≠ p ∧ e.1 ≠ D ∧ Hx e.1 = some (.tup [.ref e.2.1, .bl true])) ∧ (e.2.1 ≠ p ∧ e.2.1 ≠ D ∧ Hx e.2.1 = some (.tup (e.2.2.map V.str))) ∧ e.2.2.length = d + 1 ∧ ∀ z ∈ e.2.2, z ∈ ms) ∧ PurseAt Hx p (g + 4 * b - 4 * i) ∧ But p H Hx)
      ⟨[], rfl, upd_same, (fun e he => nomatch he), hP1.at_ne nD, fun b' o nb q => same_new hD _ _ (hB1 _ _ nb q)⟩ ?_ ?_
    · rintro i H3 hi ⟨W, hl, hDW, hW, hP3, hB3⟩
      have e1 : g + 4 * b - 4 * i = g + 4 * b - 4 * (i + 1) + 4 := by omega
      rw [e1] at hP3
      refine ⟨rfl, ?_⟩
      refine ⟨_, rfl, _, rfl, _, rfl, p, a, g + 4 * b - 4 * (i + 1), d, ms, rfl, hP3, hB3 _ _ ne ha, ne, l0, l3, d3, fun t row H4 lr orr tp ht hP4 hB4 => ?_⟩
      refine ⟨by show 2 ≤ sizeLine; decide, fun u nu => ?_⟩
      have up := hP4.ne nu
      have su := same_new (o := .tup [.ref t, .bl true]) nu
      have hD4 := hB4 _ _ nD hDW
      have uD : u ≠ D := fun z => by
        rw [z, hD4] at nu
        cases nu
      have tD : t ≠ D := fun z => by
        rw [z, hD4] at ht
        cases ht
      refine ⟨_, su _ _ hD4, by rw [List.length_map]; exact len_ok (by omega), W ++ [(u, t, row)], by rw [List.length_append, hl]; rfl, by rw [upd_same, List.map_append]; rfl, fun e he => ?_, (hP4.at_ne up).at_ne nD, fun b' o nb q => ?_⟩
      · rcases List.mem_append.mp he with he | he
        · obtain ⟨⟨a1, a2, a3⟩, ⟨b1, b2, b3⟩, c⟩ := hW e he
          exact ⟨⟨a1, a2, (upd_ne a2).trans (su _ _ (hB4 _ _ a1 a3))⟩, ⟨b1, b2, (upd_ne b2).trans (su _ _ (hB4 _ _ b1 b3))⟩, c⟩
        · rw [List.mem_singleton.mp he]
          exact ⟨⟨up, uD, (upd_ne uD).trans upd_same⟩, ⟨tp, tD, (upd_ne tD).trans (su _ _ ht)⟩, lr, orr⟩
      · by_cases hb : b' = D
        · rw [hb] at q
          have := hB1.none nD hD
          rw [q] at this
          cases this
        · exact (upd_ne hb).trans (su _ _ (hB4 _ _ nb (hB3 _ _ nb q)))
    · rintro Hx ⟨W, hl, hDW, hW, hPx, hBx⟩
      refine ⟨D, W.map (·.1), W.map fun e => (e.2.1, kR e.2.2, V.bl true), rfl, SqL.of (by rw [List.map_map]; exact hDW), paired_maps fun e he => ⟨SqT.of (hW e he).1.2.2, ?_⟩, fun q nq => ?_⟩
      · show Hx e.2.1 = some (.tup ((kR e.2.2).map kV))
        rw [kR_V]
        exact (hW e he).2.1.2.2
      have sq := same_new (o := .dT (mergeT [] ((W.map fun e => (e.2.1, kR e.2.2, V.bl true)).map (·.2)))) nq
      obtain ⟨nd, mk⟩ := merge_keys ((W.map fun e => (e.2.1, kR e.2.2, V.bl true)).map (·.2)) [] List.nodup_nil
      have len4 : (mergeT [] ((W.map fun e => (e.2.1, kR e.2.2, V.bl true)).map (·.2))).length ≤ b := by
        have := mergeT_len ((W.map fun e => (e.2.1, kR e.2.2, V.bl true)).map (·.2)) []
        rw [List.length_map, List.length_map] at this
        simp only [List.length_nil] at this
        omega
      have from_ : ∀ k, k ∈ (mergeT [] ((W.map fun e => (e.2.1, kR e.2.2, V.bl true)).map (·.2))).map (·.1) → ∃ e ∈ W, k = kR e.2.2 := fun k hk => by
        rcases (mk k).mp hk with z | z
        · cases z
        · rw [List.map_map, List.map_map] at z
          obtain ⟨e, he, rfl⟩ := List.mem_map.mp z
          exact ⟨e, he, rfl⟩
      refine ⟨q, _, d, rfl, upd_same, nd, by omega, fun e he => ?_, fun M eM RM => ?_⟩
      · obtain ⟨u, hu, er⟩ := from_ e.1 (List.mem_map.mpr ⟨e, he, rfl⟩)
        exact ⟨u.2.2, er, (hW u hu).2.2.1⟩
      intro M' L pm up nL
      have sL := same_new (o := .lst (M'.map fun e => V.ref e.1)) nL
      have hPq := hPx.at_ne (D := q) (o := .dT (mergeT [] ((W.map fun e => (e.2.1, kR e.2.2, V.bl true)).map (·.2)))) (hPx.ne nq)
      have nLp := hPq.ne nL
      have lM : M.length ≤ b := by
        have := congrArg List.length eM
        rw [List.length_map, List.length_map] at this
        omega
      have orM : ∀ e ∈ M, ∀ z ∈ e.2, z ∈ ms := fun e he => by
        obtain ⟨u, hu, er⟩ := from_ (kR e.2) (by rw [← eM]; exact List.mem_map.mpr ⟨e, he, rfl⟩)
        rw [kR_inj er]
        exact (hW u hu).2.2.2
      have neM : ∀ e ∈ M, e.1 ≠ p := fun e he z => by
        have h1 := RM.at_ e he
        obtain ⟨x, y, c, t, h2, _⟩ := hPq
        rw [z, h2] at h1
        cases h1
      refine k L M' _ ?_ upd_same ((RM.perm pm).to sL) up (by rw [pm.length_eq]; exact lM) (fun e he => orM e (pm.mem_iff.mp he)) (fun e he => neM e (pm.mem_iff.mp he)) ((hPq.at_ne nLp).less (by omega)) fun b' o nb z => sL _ _ (sq _ _ (hBx _ _ nb z))
      exact hBx.none nLp (none_back sq nL)
end
end Yt

set_option Elab.async false
set_option linter.all false
set_option maxRecDepth 100000
set_option maxHeartbeats 2000000
namespace Yt
open PySem PySem.Spec PyProof.Rows L2
abbrev sLTold : Stmt := top 56
abbrev sLIs : Stmt := top 57
theorem ex_strs {H : Hp} {n : Nat} : ∀ zs : List Str, Paired (Ex H n []) (zs.map V.str) (zs.map V.str)
  | [] => .nil
  | z :: zs => .cons (Ex.leaf rfl) (ex_strs zs)
theorem ex_rows {H : Hp} {n : Nat} : ∀ {M N : List (Addr × List Str)}, M.map (·.2) = N.map (·.2) → (∀ e ∈ M, H e.1 = some (.tup (e.2.map V.str)) ∧ e.2.length ≤ 1000) → (∀ e ∈ N, H e.1 = some (.tup (e.2.map V.str))) → Paired (Ex H (n + 1) []) (M.map fun e => V.ref e.1) (N.map fun e => V.ref e.1)
  | [], [], _, _, _ => .nil
  | [], _ :: _, h, _, _ => by cases h
  | _ :: _, [], h, _, _ => by cases h
  | e :: M, u :: N, h, h1, h2 => by
    rw [List.map_cons, List.map_cons, List.cons.injEq] at h
    refine .cons (.inr (.inr (.inl ⟨e.1, u.1, e.2.map V.str, e.2.map V.str, rfl, rfl, (by simp), (by simp), (h1 e (List.mem_cons_self ..)).1, ?_, ex_strs _, ?_⟩))) (ex_rows h.2 (fun x hx => h1 x (List.mem_cons_of_mem _ hx)) fun x hx => h2 x (List.mem_cons_of_mem _ hx))
    · rw [h.1]
      exact h2 u (List.mem_cons_self ..)
    · rw [List.length_map]
      exact (h1 e (List.mem_cons_self ..)).2
section
variable {P : Program} {w : World} {K : PySem.W.Frag} {mg : Str → Option Value} {base : Heap} {f : Addr} {fd : FuncData} {C : Addr}
theorem scLTold : FnScope ["_law_table"] ["_law_table"] (defScope sLTold) := ⟨rfl, rfl, rfl, by decide +kernel, rfl, by decide +kernel, by decide +kernel⟩
def spLTold (C : Addr) : Sp := fun vs H Q _ => ∃ (p : Addr) (ms : List Str) (d : Nat) (rs : List (List Str)), vs = [.ref p] ∧ TableAt C H p ms d rs ∧
  ∀ (L A R : Addr) (M : List (Addr × List Str)) (H' : Hp), H L = none → H' L = some (.lst [.ref A, .int ((d + 1 : Nat) : Int), .ref R]) → H' A = some (.lst (ms.map V.str)) → H' R = some (.lst (M.map fun e => V.ref e.1)) → RowsIn H' d M → M.map (·.2) = rs → Same H H' → Q (.ref L) H'
theorem ok_ltold (F : FnP K "_law_told_table" sLTold f fd) (TM : TM P w K mg base C) : FnOk P w K mg base CX0 2 f fd ["_law_table"] (spLTold C) := by
  obtain ⟨fA, dA, GA, bA, mA⟩ := TM.marks
  obtain ⟨fW, dW, GW, bW, mW⟩ := TM.width
  obtain ⟨fR, dR, GR, bR, mR⟩ := TM.rows
  have TT := TM.tc
  refine F.ok scLTold (fun vs H Q E h => ?_) (fun cdv A outer s H vs Q E hr h => ?_)
  · obtain ⟨p, ms, d, rs, rfl, _⟩ := h
    rfl
  · obtain ⟨p, ms, d, rs, rfl, T1, k⟩ := h
    refine ⟨_, PSs.nox (pss_one (ps_ret (pe_lst (pa_cons (pe_meth0 (pv 0) TT.cl mA GA (hr.mono (by decide)) bA .nil pass0) (pa_cons (pe_meth0 (pv 0) TT.cl mW GW (hr.mono (by decide)) bW .nil pass0) (pa_cons (pe_meth0 (pv 0) TT.cl mR GR (hr.mono (by decide)) bR .nil pass0) pa_nil)))))), ?_⟩
    obtain ⟨dx, A1, R, M0, h1, _⟩ := id T1
    refine ⟨_, rfl, p, dx, _, rfl, h1, no_attr (by decide +kernel), p, ms, d, rs, rfl, T1, fun A2 H2 nA2 hA2 s2 => ?_⟩
    refine ⟨_, rfl, p, dx, _, rfl, s2 _ _ h1, no_attr (by decide +kernel), p, ms, d, rs, rfl, T1.to s2, ?_⟩
    refine ⟨_, rfl, p, dx, _, rfl, s2 _ _ h1, no_attr (by decide +kernel), p, ms, d, rs, rfl, T1.to s2, fun R3 M3 H3 nR3 hR3 RM eM s3 => ?_⟩
    have s23 : Same H H3 := fun b o z => s3 _ _ (s2 _ _ z)
    refine ⟨by show 3 ≤ sizeLine; decide, fun L nL => ?_⟩
    have sL := same_new (o := .lst [.ref A2, .int ((d + 1 : Nat) : Int), .ref R3]) nL
    exact k L A2 R3 M3 _ (none_back s23 nL) upd_same (sL _ _ (s3 _ _ hA2)) (sL _ _ hR3) ((RM.to s3).to sL) eM fun b o z => sL _ _ (s23 _ _ z)
theorem scLIs : FnScope ["_law_table", "_law_marks_here", "_law_width", "_law_rows"] ["_law_table", "_law_marks_here", "_law_width", "_law_rows"] (defScope sLIs) := ⟨rfl, rfl, rfl, by decide +kernel, rfl, by decide +kernel, by decide +kernel⟩
def spLIs (C : Addr) : Sp := fun vs H Q _ => ∃ (p a l : Addr) (ms : List Str) (d : Nat) (rs : List (List Str)) (N : List (Addr × List Str)), vs = [.ref p, .ref a, .int ((d + 1 : Nat) : Int), .ref l] ∧ TableAt C H p ms d rs ∧ H a = some (.lst (ms.map V.str)) ∧ H l = some (.lst (N.map fun e => V.ref e.1)) ∧ RowsIn H d N ∧ (N.map (·.2)).Nodup ∧ (∀ r, r ∈ rs ↔ r ∈ N.map (·.2)) ∧ ms.length ≤ 3 ∧ d ≤ 3 ∧
  ∀ H', Same H H' → Q (.bl true) H'
theorem ok_lis {fT fX : Addr} {dT dX : FuncData} (F : FnP K "_law_is_table" sLIs f fd) (TM : TM P w K mg base C) (T6 : Nm6 mg) (hso : mg "sorted" = none)
    (GT : FnOk P w K mg base CX0 2 fT dT ["_law_table"] (spLTold C)) (bT : Binds K dT ["_law_table"] []) (kT : PySem.W.keepIn K (.ref fT) = true) (gT : mg "_law_told_table" = some (.ref fT))
    (GX : FnOk P w K mg base CX0 4 fX dX ["_law_mine", "_law_theirs"] (spExact K 4)) (bX : Binds K dX ["_law_mine", "_law_theirs"] []) (kX : PySem.W.keepIn K (.ref fX) = true) (gX : mg "_law_exact" = some (.ref fX)) :
    FnOk P w K mg base CX0 5 f fd ["_law_table", "_law_marks_here", "_law_width", "_law_rows"] (spLIs C) := by
  have TT := TM.tc
  refine F.ok scLIs (fun vs H Q E h => ?_) (fun cdv A outer s H vs Q E hr h => ?_)
  · obtain ⟨p, a, l, ms, d, rs, N, rfl, _⟩ := h
    rfl
  · obtain ⟨p, a, l, ms, d, rs, N, rfl, T1, ha, hl, RN, nd, mem, m3, d3, k⟩ := h
    have hu4 := units4 hr
    refine ⟨_, PSs.nox (pss_one (ps_ret (pe_and (pe_callB call_isi (by rfl) T6.isi (by decide +kernel) (pa_cons (pv 0) (pa_cons (pe_glob (v := .ref C) rfl TT.mgC rfl) pa_nil)))
      (pe_one (pe_call GX (hr.mono (by decide)) rfl gX kX bX .nil pass0 (pa_cons (pe_call GT (hr.mono (by decide)) rfl gT kT bT .nil pass0 (pa_cons (pv 0) pa_nil)) (pa_cons (pe_lst (pa_cons (pv 1) (pa_cons (pv 2) (pa_cons (pe_callB (cr_sortList rfl hu4) (by rfl) hso (by decide +kernel) (pa_cons (pv 3) pa_nil)) pa_nil)))) pa_nil))))))), ?_⟩
    obtain ⟨dx, A1, R, M0, h1, _⟩ := id T1
    refine ⟨_, rfl, _, _, .ref C, _, true, rfl, .own C, TT.is h1, TT.kit, true, rfl, ?_⟩
    refine iteT ?_
    refine ⟨_, rfl, p, ms, d, rs, rfl, T1, fun L A2 R2 M H2 nL hL hA hR RM eM s2 => ?_⟩
    refine ⟨_, rfl, _, rfl, _, rfl, l, N, d, rfl, SqL.of (s2 _ _ hl), RN.to s2, nd, fun N' S pm up nS => ?_⟩
    have sS := same_new (o := .lst (N'.map fun e => V.ref e.1)) nS
    refine ⟨by show 3 ≤ sizeLine; decide, fun T nT => ?_⟩
    have sT := same_new (o := .lst [.ref a, .int ((d + 1 : Nat) : Int), .ref S]) nT
    have s5 : Same H2 (upd (upd H2 S (.lst (N'.map fun e => V.ref e.1))) T (.lst [.ref a, .int ((d + 1 : Nat) : Int), .ref S])) := fun b o z => sT _ _ (sS _ _ z)
    have e1 : M.map (·.2) = N'.map (·.2) := by
      rw [eM]
      exact up_same T1.up up fun r => (mem r).trans ((pm.map (·.2)).mem_iff).symm
    have RM5 := RM.to s5
    have RN5 := ((RN.to s2).perm pm).to s5
    have fM : (M.map fun e => V.ref e.1).length ≤ 1000 := by
      rw [List.length_map]
      have := RM.few
      omega
    refine ⟨[], .ref L, .ref T, rfl, .inr (.inl ⟨L, T, _, _, rfl, rfl, (by simp), (by simp), s5 _ _ hL, upd_same, .cons ?_ (.cons (Ex.leaf rfl) (.cons ?_ .nil)), (show 3 ≤ 1000 by decide)⟩), fun H6 s6 => k H6 fun b o z => s6 _ _ (s5 _ _ (s2 _ _ z))⟩
    · exact .inr (.inl ⟨A2, a, _, _, rfl, rfl, (by simp), (by simp), s5 _ _ hA, s5 _ _ (s2 _ _ ha), ex_strs _, by rw [List.length_map]; omega⟩)
    · exact .inr (.inl ⟨R2, S, _, _, rfl, rfl, (by simp), (by simp), s5 _ _ hR, sT _ _ upd_same, ex_rows e1 (fun e he => ⟨RM5.at_ e he, by rw [RM5.len e he]; omega⟩) (fun e he => RN5.at_ e he), fM⟩)
end
end Yt

set_option Elab.async false
set_option linter.all false
set_option maxRecDepth 100000
set_option maxHeartbeats 2000000
namespace Yt
open PySem PySem.Spec PyProof.Rows L2
abbrev sLEvery : Stmt := top 55
/-- a list of rows -/
theorem RowsAt.to {H H' : Hp} {L : Addr} {N : List (Addr × List Str)} (h : RowsAt H L N) (s : Same H H') : RowsAt H' L N := ⟨s _ _ h.1, fun e he => s _ _ (h.2 e he)⟩
theorem kR_app (r : List Str) (c : Str) : kR (r ++ [c]) = kR r ++ [Sum.inr c] := by
  unfold kR
  rw [List.map_append]
  rfl
theorem growN_rows (ms : List Str) : ∀ n, growN ms n = (rowsN ms n).map kR
  | 0 => rfl
  | n + 1 => by
    show grow ms (growN ms n) = ((rowsN ms n).flatMap fun r => ms.map fun c => r ++ [c]).map kR
    rw [growN_rows ms n]
    unfold grow
    rw [List.flatMap_map, List.map_flatMap]
    congr 1
    funext r
    rw [List.map_map]
    exact List.map_congr_left fun c _ => (kR_app r c).symm
theorem paired_rows {H : Hp} : ∀ {ts : List Addr} {rs : List (List Str)}, Paired (TupAt H) ts (rs.map kR) → ∃ M : List (Addr × List Str), M.map (·.2) = rs ∧ (ts.map V.ref = M.map fun e => V.ref e.1) ∧ ∀ e ∈ M, H e.1 = some (.tup (e.2.map V.str))
  | [], [], _ => ⟨[], rfl, rfl, fun e he => nomatch he⟩
  | t :: ts, r :: rs, h => by
    cases h with
    | cons h1 h2 =>
      obtain ⟨M, e1, e2, e3⟩ := paired_rows h2
      refine ⟨(t, r) :: M, by rw [List.map_cons, e1], by rw [List.map_cons, List.map_cons, e2], fun e he => ?_⟩
      rcases List.mem_cons.mp he with rfl | he
      · have h1 : H t = some (.tup ((kR r).map kV)) := h1
        rw [kR_V] at h1
        exact h1
      · exact e3 e he
def spLEvery : Sp := fun vs H Q _ => ∃ (a : Addr) (ms : List Str) (n : Nat), vs = [.ref a, .int (n : Nat)] ∧ H a = some (.lst (ms.map V.str)) ∧ ms.length ≤ 3 ∧ n ≤ 4 ∧
  ∀ (L : Addr) (M : List (Addr × List Str)) (H' : Hp), H L = none → RowsAt H' L M → M.map (·.2) = rowsN ms n → Same H H' → Q (.ref L) H'
section
variable {P : Program} {w : World} {K : PySem.W.Frag} {mg : Str → Option Value} {base : Heap} {f : Addr} {fd : FuncData}
theorem scEvery : FnScope ["_law_marks_here", "_law_width", "_law_found", "_law_turn", "_law_longer", "_law_row_here", "_law_mark"] ["_law_marks_here", "_law_width"] (defScope sLEvery) := ⟨rfl, rfl, rfl, by decide +kernel, rfl, by decide +kernel, by decide +kernel⟩
theorem ok_every (F : FnP K "_law_every" sLEvery f fd) (T : Nm mg) : FnOk P w K mg base CX0 1 f fd ["_law_marks_here", "_law_width"] spLEvery := by
  refine F.ok scEvery (fun vs H Q E h => ?_) (fun cdv A outer s H vs Q E hr h => ?_)
  · obtain ⟨a, ms, n, rfl, _⟩ := h
    rfl
  · obtain ⟨a, ms, n, rfl, hS0, few, n4, k⟩ := h
    have hS : SqL K H a (ms.map V.str) := SqL.of hS0
    refine ⟨_, PSs.nox (pss_cons (ps_set (i := 2) scEvery.nd rfl (Or.inl rfl) (pe_lst (pa_cons (pe_tup pa_nil) pa_nil)))
      (pss_cons (ps_for PassesOwn.never rfl (pi_range1 rfl T.range (pa_cons (pv 1) pa_nil)) (pg_name (i := 3) scEvery.nd rfl (Or.inl rfl))
        (pss_cons (ps_set (i := 4) scEvery.nd rfl (Or.inl rfl) (pe_lst pa_nil))
        (pss_cons (ps_for PassesOwn.never rfl (pi_list (pv 2)) (pg_name (i := 5) scEvery.nd rfl (Or.inr rfl))
          (pss_one (ps_set (i := 4) scEvery.nd rfl (Or.inl rfl) (pe_op op_cat (pv 4) (pe_lc (own := [("_law_mark", 6)]) (g := gName 6) (tt := tYes) (te := tOp (rCatA K) (tVar 5) (tTup (tCons (tVar 6) tNil))) rfl scEvery.nd (pi_list (pv 0)) (blkOk_by (own := [("_law_mark", 6)]) (N := ["_law_marks_here", "_law_width", "_law_found", "_law_turn", "_law_longer", "_law_row_here", "_law_mark"]) (sc := defScope sLEvery) (by decide +kernel))
            (fun _ _ _ _ _ => pg_name (i := 6) scEvery.nd rfl (Or.inl rfl)) (fun _ _ _ _ _ => pts_nil) (fun _ _ _ _ _ => pe_op op_catA (pv 5) (pe_tup (pa_cons (pv 6) pa_nil))))))))
        (pss_one (ps_set (i := 2) scEvery.nd rfl (Or.inl rfl) (pv 4))))))
      (pss_one (ps_ret (pv 2))))), ?_⟩
    have small5 : ∀ n, n ≤ 4 → (growN ms n).length ≤ 125 := fun n hn => by
      rw [growN_len]
      calc ms.length ^ n ≤ 3 ^ n := Nat.pow_le_pow_left few n
        _ ≤ 3 ^ 4 := Nat.pow_le_pow_right (by decide) hn
        _ ≤ 125 := by decide
    have sz : ∀ {n : Nat}, n ≤ 1000 → n ≤ sizeLine := fun h => by
      rw [sizeLine_eq]
      omega
    refine ⟨(by show 0 ≤ sizeLine; decide), fun t0 nt0 => ⟨(by show 1 ≤ sizeLine; decide), fun L0 nL0 => ?_⟩⟩
    have s0 := same_new (o := .tup []) nt0
    have sL := same_new (o := .lst [V.ref t0]) nL0
    refine ⟨_, rfl, _, rfl, by omega, by omega, for_range (lo := 0) (n := (n : Int).toNat) (fun i σ Hc => ∃ (v2 v3 v4 v5 : Option V) (L : Addr) (ts : List Addr), σ = [some (.ref a), some (.int n), some (.ref L), v2, v3, v4, v5] ∧ H L = none ∧ Hc L = some (.lst (ts.map V.ref)) ∧ Paired (TupAt Hc) ts (growN ms i) ∧ Same H Hc)
      ⟨none, none, none, none, L0, [t0], rfl, ?_, upd_same, .cons (sL _ _ upd_same) .nil, fun b o e => sL _ _ (s0 _ _ e)⟩ ?_ ?_⟩
    · cases e : H L0 with
      | none => rfl
      | some o =>
        rw [s0 _ _ e] at nL0
        cases nL0
    · rintro i σ Hc hi ⟨v2, v3, v4, v5, L, ts, rfl, nL, hL, hT, hH⟩
      have li := small5 i (by omega)
      have li1 := small5 (i + 1) (by omega)
      refine ⟨(by show 0 ≤ sizeLine; decide), fun G0 nG0 => ?_⟩
      have sG := same_new (o := .lst []) nG0
      have nGH : ∀ {q : Addr} {Hx : Hp}, Same H Hx → Hx q = none → H q = none := fun {q Hx} z e => by
        cases e2 : H q with
        | none => rfl
        | some o =>
          rw [z _ _ e2] at e
          cases e
      refine ⟨_, rfl, L, rfl, ⟨_, SqL.of (sG _ _ hL)⟩, for_list (K := K) (a := L) (xs := ts.map V.ref) (fun j σ Hd => ∃ (w2 w4 w5 : Option V) (G : Addr) (gs : List Addr), σ = [some (.ref a), some (.int n), some (.ref L), w2, some (.ref G), w4, w5] ∧ H G = none ∧ Hd G = some (.lst (gs.map V.ref)) ∧ Paired (TupAt Hd) gs (grow ms ((growN ms i).take j)) ∧ Same Hc Hd)
        ⟨some (.int (0 + i)), v4, v5, G0, [], rfl, nGH hH nG0, upd_same, .nil, sG⟩ (fun j σ Hd _ ⟨_, _, _, _, _, _, _, _, _, z⟩ => SqL.of (z _ _ hL)) ?_ ?_⟩
      · rintro j u σ Hd hj ⟨w2, w4, w5, G, gs, rfl, nG, hG, hgs, hD⟩
        obtain ⟨t, et, rfl⟩ : ∃ t, ts[j]? = some t ∧ V.ref t = u := by
          rw [List.getElem?_map] at hj
          exact Option.map_eq_some_iff.mp hj
        obtain ⟨sk, ek, ht⟩ := paired_at' hT et
        have hd1 : TupAt Hd t sk := hD _ _ ht
        have etk : (growN ms i).take (j + 1) = (growN ms i).take j ++ [sk] := by rw [List.take_add_one, ek] <;> rfl
        have gl : gs.length = (grow ms ((growN ms i).take j)).length := Paired.length hgs
        have grl : (grow ms ((growN ms i).take j)).length + ms.length ≤ 130 := by
          rw [grow_len, List.length_take]
          have h1 : min j (growN ms i).length * ms.length ≤ (growN ms i).length * ms.length := Nat.mul_le_mul_right _ (Nat.min_le_right _ _)
          have h2 : (growN ms i).length * ms.length = (growN ms (i + 1)).length := by rw [growN, grow_len]
          omega
        have hHd : Same H Hd := fun b o e => hD _ _ (hH _ _ e)
        refine ⟨_, rfl, _, rfl, a, rfl, ⟨_, hHd.seq hS⟩, fun D nD => ?_⟩
        have sD := same_new (o := .lst []) nD
        refine lc_list (K := K) (a := a) (xs := ms.map V.str) (fun c Hx => ∃ rs : List Addr, Hx D = some (.lst (rs.map V.ref)) ∧ Paired (fun r kk => r ≠ D ∧ TupAt Hx r kk) rs ((ms.take c).map fun z => sk ++ [Sum.inr z]) ∧ Same Hd Hx) ?_ ?_ ?_ ?_
        · exact ⟨[], upd_same, .nil, sD⟩
        · rintro c Hx hc ⟨rs, q1, q2, q3⟩
          exact q3.seq (hHd.seq hS)
        · rintro c x Hx hx ⟨rs, q1, q2, q3⟩
          obtain ⟨z, ez, rfl⟩ : ∃ z, ms[c]? = some z ∧ V.str z = x := by
            rw [List.getElem?_map] at hx
            exact Option.map_eq_some_iff.mp hx
          have hcl : c < ms.length := (List.getElem?_eq_some_iff.mp ez).1
          have emk : (ms.take (c + 1)).map (fun z => sk ++ [(Sum.inr z : Key)]) = (ms.take c).map (fun z => sk ++ [Sum.inr z]) ++ [sk ++ [Sum.inr z]] := by
            rw [List.take_add_one, ez, List.map_append] <;> rfl
          have rl : rs.length = c := by
            rw [Paired.length q2, List.length_map, List.length_take]
            omega
          have skl : sk.length = i := growN_each ms i sk (List.mem_of_getElem? ek)
          refine ⟨rfl, ?_⟩
          refine ⟨_, rfl, _, rfl, (by show 1 ≤ sizeLine; decide), fun t1 nt1 => ?_⟩
          have s1 := same_new (o := .tup [V.str z]) nt1
          have put : ∀ (r : Addr) (Hy : Hp), Same Hx Hy → Hx r = none → Hy r = some (.tup ((sk ++ [(Sum.inr z : Key)]).map kV)) →
              ∃ acc, Hy D = some (.lst acc) ∧ acc.length < sizeLine ∧ ∃ rs : List Addr, (upd Hy D (.lst (acc ++ [V.ref r]))) D = some (.lst (rs.map V.ref)) ∧ Paired (fun q kk => q ≠ D ∧ TupAt (upd Hy D (.lst (acc ++ [V.ref r]))) q kk) rs ((ms.take (c + 1)).map fun z => sk ++ [Sum.inr z]) ∧ Same Hd (upd Hy D (.lst (acc ++ [V.ref r]))) := by
            intro r Hy sy nr hr
            have rD : r ≠ D := fun q => by
              rw [q, q1] at nr
              cases nr
            refine ⟨_, sy _ _ q1, ?_, rs ++ [r], ?_, ?_, fun b o e => ?_⟩
            · rw [List.length_map, rl]
              exact len_ok (by omega)
            · rw [upd_same, List.map_append] <;> rfl
            · rw [emk]
              exact Paired.snoc (Paired.mapP q2 fun r' kk h => ⟨h.1, (upd_ne h.1).trans (sy _ _ h.2)⟩) ⟨rD, (upd_ne rD).trans hr⟩
            · exact (upd_ne (ne_of_none e nD)).trans (sy _ _ (q3 _ _ e))
          have ht1 := s1 _ _ (q3 _ _ hd1)
          refine ⟨t, t1, sk.map kV, [V.str z], rfl, rfl, SqT.of ht1, SqT.of upd_same, ?_, fun e0 => ?_, fun _ e1 => (by simp at e1), fun e0 _ r nr => ?_⟩
          · rw [List.length_map, skl]
            exact sz (show i + 1 ≤ 1000 by omega)
          · have : sk = [] := List.map_eq_nil_iff.mp e0
            refine put t1 _ s1 nt1 ?_
            rw [this]
            exact upd_same
          · refine put r _ (fun b o e => same_new nr _ _ (s1 _ _ e)) ?_ ?_
            · cases e : Hx r with
              | none => rfl
              | some o =>
                rw [s1 _ _ e] at nr
                cases nr
            · rw [upd_same, List.map_append] <;> rfl
        · rintro Hx ⟨rs, q1, q2, q3⟩
          rw [List.length_map, List.take_length] at q2
          have rl : rs.length = ms.length := by rw [Paired.length q2, List.length_map]
          refine ⟨G, D, gs.map V.ref, rs.map V.ref, rfl, rfl, q3 _ _ hG, q1, ?_, fun p np => ?_⟩
          · rw [List.length_map, List.length_map, gl, rl]
            exact sz (by omega)
          · have sp := same_new (o := .lst (gs.map V.ref ++ rs.map V.ref)) np
            refine ⟨_, _, _, p, gs ++ rs, rfl, ?_, ?_, ?_, fun b o e => sp _ _ (q3 _ _ (hD _ _ e))⟩
            · exact nGH (fun b o e => q3 _ _ (hHd _ _ e)) np
            · rw [upd_same, List.map_append]
            · rw [etk, grow_append]
              refine pair_app (Paired.mapP hgs fun r kk h => sp _ _ (q3 _ _ h)) ?_
              have e1 : grow ms [sk] = ms.map fun z => sk ++ [(Sum.inr z : Key)] := by
                unfold grow
                rw [List.flatMap_cons, List.flatMap_nil, List.append_nil]
              rw [e1]
              exact Paired.mapP q2 fun r kk h => sp _ _ h.2
      · rintro σ Hd ⟨w2, w4, w5, G, gs, rfl, nG, hG, hgs, hD⟩
        refine ⟨_, rfl, ?_⟩
        refine ⟨_, _, _, _, G, gs, rfl, nG, hG, ?_, fun b o e => hD _ _ (hH _ _ e)⟩
        rw [show (ts.map V.ref).length = (growN ms i).length by rw [List.length_map]; exact Paired.length hT, List.take_length] at hgs
        exact hgs
    · rintro σ Hc ⟨v2, v3, v4, v5, L, ts, rfl, nL, hL, hT, hH⟩
      have en : (n : Int).toNat = n := by omega
      rw [en, growN_rows] at hT
      obtain ⟨M, e1, e2, e3⟩ := paired_rows hT
      rw [e2] at hL
      exact ⟨_, rfl, k L M Hc nL ⟨hL, e3⟩ e1 hH⟩
end
end Yt

set_option Elab.async false
set_option linter.all false
set_option maxRecDepth 100000
set_option maxHeartbeats 2000000
namespace Yt
open PySem PySem.Spec PyProof.Rows L2
abbrev sLTwos : Stmt := top 58
abbrev twosOf (n : Nat) (l : List Nat) : List (Nat × Nat) := l.flatMap fun i => (List.range (n - i)).map fun c => (i, i + c)
theorem twosOf_len (n : Nat) (l : List Nat) : (twosOf n l).length ≤ l.length * n := by
  induction l with
  | nil => simp [twosOf]
  | cons x l ih =>
    unfold twosOf at ih ⊢
    rw [List.flatMap_cons, List.length_append, List.length_map, List.length_range, List.length_cons, Nat.add_mul]
    omega
section
variable {P : Program} {w : World} {K : PySem.W.Frag} {mg : Str → Option Value} {base : Heap} {f : Addr} {fd : FuncData}
theorem scLTwos : FnScope ["_law_width", "_law_found", "_law_one", "_law_other"] ["_law_width"] (defScope sLTwos) := ⟨rfl, rfl, rfl, by decide +kernel, rfl, by decide +kernel, by decide +kernel⟩
theorem ok_ltwos (F : FnP K "_law_twos_of" sLTwos f fd) (T : Nm mg) : FnOk P w K mg base CX0 1 f fd ["_law_width"] spTwos := by
  refine F.ok scLTwos (fun vs H Q E h => ?_) (fun cdv A outer s H vs Q E hr h => ?_)
  · obtain ⟨d, rfl, _⟩ := h
    rfl
  · obtain ⟨d, rfl, d3, k⟩ := h
    refine ⟨_, PSs.nox (pss_cons (ps_set (i := 1) scLTwos.nd rfl (Or.inl rfl) (pe_lst pa_nil))
      (pss_cons (ps_for PassesOwn.never rfl (pi_range1 rfl T.range (pa_cons (pv 0) pa_nil)) (pg_name (i := 2) scLTwos.nd rfl (Or.inr rfl))
        (pss_one (ps_set (i := 1) scLTwos.nd rfl (Or.inl rfl) (pe_op op_cat (pv 1) (pe_lc (own := [("_law_other", 3)]) (g := gName 3) (tt := tYes) (te := tTup (tCons (tVar 2) (tCons (tVar 3) tNil))) rfl scLTwos.nd (pi_range2 (by rfl) T.range (pa_cons (pv 2) (pa_cons (pv 0) pa_nil))) (blkOk_by (own := [("_law_other", 3)]) (N := ["_law_width", "_law_found", "_law_one", "_law_other"]) (sc := defScope sLTwos) (by decide +kernel))
          (fun _ _ _ _ _ => pg_name (i := 3) scLTwos.nd rfl (Or.inl rfl)) (fun _ _ _ _ _ => pts_nil) (fun _ _ _ _ _ => pe_tup (pa_cons (pv 2) (pa_cons (pv 3) pa_nil))))))))
      (pss_one (ps_ret (pv 1))))), ?_⟩
    refine ⟨(by show 0 ≤ sizeLine; decide), fun L0 nL0 => ?_⟩
    have en : ((d + 1 : Nat) : Int).toNat = d + 1 := by omega
    refine ⟨_, rfl, _, rfl, by omega, by omega, for_range (lo := 0) (n := ((d + 1 : Nat) : Int).toNat) (fun i σ Hc => ∃ (v2 v3 : Option V) (L : Addr) (M : List (Addr × Nat × Nat)), σ = [some (.int ((d + 1 : Nat) : Int)), some (.ref L), v2, v3] ∧ H L = none ∧ Hc L = some (.lst (M.map fun e => V.ref e.1)) ∧ M.map (·.2) = twosOf (d + 1) ((List.range (d + 1)).take i) ∧ (∀ e ∈ M, Hc e.1 = some (.tup [.int (e.2.1 : Nat), .int (e.2.2 : Nat)])) ∧ Same H Hc)
      ⟨none, none, L0, [], rfl, nL0, upd_same, rfl, (fun e he => nomatch he), same_new nL0⟩ ?_ ?_⟩
    · rintro i σ Hc hi ⟨v2, v3, L, M, rfl, nL, hL, eM, hM, sc⟩
      rw [en] at hi
      have ei : (List.range (d + 1))[i]? = some i := by rw [List.getElem?_range hi]
      refine ⟨_, rfl, _, rfl, _, rfl, _, _, rfl, ⟨by omega, by omega, by omega, by omega⟩, fun D hD => ?_⟩
      have en2 : (((d + 1 : Nat) : Int) - (0 + (i : Int))).toNat = d + 1 - i := by omega
      rw [en2]
      refine lc_range (lo := 0 + (i : Int)) (n := d + 1 - i) (fun c Hy => Built2 D Hc (((List.range (d + 1 - i)).take c).map fun c => (i, i + c)) Hy) (Built2.first hD) ?_ ?_
      · rintro c Hy hc hB
        have ec : (List.range (d + 1 - i))[c]? = some c := by rw [List.getElem?_range hc]
        refine ⟨rfl, ?_⟩
        refine ⟨_, rfl, _, rfl, (by show 2 ≤ sizeLine; decide), fun t nt => ?_⟩
        have e1 : (0 + (i : Int)) = ((i : Nat) : Int) := by omega
        have e2 : (0 + (i : Int) + (c : Int)) = ((i + c : Nat) : Int) := by omega
        obtain ⟨acc, b1, b2, b3⟩ := hB.more hD (H' := upd Hy t (.tup [V.int (0 + (i : Int)), V.int (0 + (i : Int) + (c : Int))])) (same_new nt) (t := t) (r := (i, i + c)) (by
          show _ = some (HO.tup [V.int ((i : Nat) : Int), V.int ((i + c : Nat) : Int)])
          rw [upd_same, e2, e1])
        refine ⟨acc, b1, by rw [b2, List.length_map, List.length_take, sizeLine_eq]; omega, ?_⟩
        rw [List.take_add_one, ec, List.map_append]
        exact b3
      · rintro Hy ⟨W, q1, q2, q3, q4⟩
        have l2 : (List.range (d + 1 - i)).take (d + 1 - i) = List.range (d + 1 - i) := List.take_of_length_le (by rw [List.length_range]; exact Nat.le_refl _)
        rw [l2] at q2
        have lM : M.length ≤ 16 := by
          have := congrArg List.length eM
          rw [List.length_map] at this
          have h1 := twosOf_len (d + 1) ((List.range (d + 1)).take i)
          have h2 : ((List.range (d + 1)).take i).length * (d + 1) ≤ 4 * 4 := Nat.mul_le_mul (by rw [List.length_take, List.length_range]; omega) (by omega)
          omega
        have lW : W.length ≤ 4 := by
          have := congrArg List.length q2
          rw [List.length_map, List.length_map, List.length_range] at this
          omega
        refine ⟨L, D, _, _, rfl, rfl, q4 _ _ hL, q1, by rw [List.length_map, List.length_map, sizeLine_eq]; omega, fun p np => ?_⟩
        rw [← List.map_append]
        have sp := same_new (o := .lst ((M ++ W).map fun e => V.ref e.1)) np
        have sHp : Same H (upd Hy p (.lst ((M ++ W).map fun e => V.ref e.1))) := fun b o z => sp _ _ (q4 _ _ (sc _ _ z))
        refine ⟨_, _, p, M ++ W, rfl, none_back (fun b o z => q4 _ _ (sc _ _ z)) np, upd_same, ?_, fun e he => ?_, sHp⟩
        · rw [List.map_append, eM, q2, twosOf, twosOf, take_flat _ _ ei]
        · rcases List.mem_append.mp he with he | he
          · exact sp _ _ (q4 _ _ (hM e he))
          · exact sp _ _ (q3 e he).2
    · rintro σ Hc ⟨v2, v3, L, M, rfl, nL, hL, eM, hM, sc⟩
      rw [en] at eM
      have ll : (List.range (d + 1)).take (d + 1) = List.range (d + 1) := List.take_of_length_le (by rw [List.length_range]; exact Nat.le_refl _)
      rw [ll] at eM
      exact ⟨_, rfl, k L M Hc nL hL eM hM sc⟩
end
end Yt

set_option Elab.async false
set_option linter.all false
set_option maxRecDepth 100000
set_option maxHeartbeats 2000000
namespace Yt
open PySem PySem.Spec PyProof.Rows L2
abbrev sLPairRows : Stmt := top 59
theorem at_get {r : List Str} {i : Nat} (h : i < r.length) : r[i]? = some (at_ r i) := by
  unfold at_
  rw [List.getD_eq_getElem?_getD, List.getElem?_eq_getElem h]
  rfl
section
variable {P : Program} {w : World} {K : PySem.W.Frag} {mg : Str → Option Value} {base : Heap} {f : Addr} {fd : FuncData}
theorem scLPairRows : FnScope ["_law_rows", "_law_one", "_law_other", "_law_row_here"] ["_law_rows", "_law_one", "_law_other"] (defScope sLPairRows) := ⟨rfl, rfl, rfl, by decide +kernel, rfl, by decide +kernel, by decide +kernel⟩
def spLPairRows : Sp := fun vs H Q _ => ∃ (l : Addr) (i j d : Nat) (M : List (Addr × List Str)), vs = [.ref l, .int (i : Nat), .int (j : Nat)] ∧ RowsAt H l M ∧ (∀ e ∈ M, e.2.length = d + 1) ∧ i < d + 1 ∧ j < d + 1 ∧ M.length ≤ 100 ∧
  ∀ (L : Addr) (N : List (Addr × List Str)) (H' : Hp), H L = none → H' L = some (.lst (N.map fun e => V.ref e.1)) → RowsIn H' 1 N → (∀ x, x ∈ N.map (·.2) ↔ x ∈ (M.map (·.2)).map (two i j)) → Same H H' → Q (.ref L) H'
theorem ok_lpairrows (F : FnP K "_law_pair_rows" sLPairRows f fd) (T6 : Nm6 mg) (hso : mg "sorted" = none) : FnOk P w K mg base CX0 1 f fd ["_law_rows", "_law_one", "_law_other"] spLPairRows := by
  refine F.ok scLPairRows (fun vs H Q E h => ?_) (fun cdv A outer s H vs Q E hr h => ?_)
  · obtain ⟨l, i, j, d, M, rfl, _⟩ := h
    rfl
  · obtain ⟨l, i, j, d, M, rfl, hl, len, id, jd, m100, k⟩ := h
    have hu4 := units4 hr
    refine ⟨_, PSs.nox (pss_one (ps_ret (pe_callB (cr_sortDict rfl hu4) (by rfl) hso (by decide +kernel) (pa_cons (pe_callTy (call_dictPT rfl (units_le hu4 (by decide))) (by rfl) T6.dict (by decide +kernel) (pa_cons
      (pe_lc (own := [("_law_row_here", 3)]) (g := gName 3) (tt := tYes) (te := tTup (tCons (tTup (tCons (tOp (rIxT K) (tVar 3) (tVar 1)) (tCons (tOp (rIxT K) (tVar 3) (tVar 2)) tNil))) (tCons (tC (.bl true)) tNil))) rfl scLPairRows.nd (pi_list (pv 0)) (blkOk_by (own := [("_law_row_here", 3)]) (N := ["_law_rows", "_law_one", "_law_other", "_law_row_here"]) (sc := defScope sLPairRows) (by decide +kernel))
        (fun _ _ _ _ _ => pg_name (i := 3) scLPairRows.nd rfl (Or.inl rfl)) (fun _ _ _ _ _ => pts_nil)
        (fun _ _ _ _ _ => pe_tup (pa_cons (pe_tup (pa_cons (pe_ix ix_tup (pv 3) (pv 1) (fun _ _ => rfl)) (pa_cons (pe_ix ix_tup (pv 3) (pv 2) (fun _ _ => rfl)) pa_nil))) (pa_cons pe_bl pa_nil)))) pa_nil)) pa_nil)))), ?_⟩
    refine ⟨_, rfl, l, rfl, ⟨_, SqL.of hl.1⟩, fun D hD => ?_⟩
    have l1 : (M.map fun e => V.ref e.1).length = (M.map (·.2)).length := by rw [List.length_map, List.length_map]
    refine lc_list (K := K) (a := l) (xs := M.map fun e => V.ref e.1) (fun n Hx => ∃ W : List (Addr × Addr × List Str), W.map (fun e => e.2.2) = ((M.map (·.2)).take n).map (two i j) ∧ Hx D = some (.lst (W.map fun e => V.ref e.1)) ∧ (∀ e ∈ W, (e.1 ≠ D ∧ Hx e.1 = some (.tup [.ref e.2.1, .bl true])) ∧ e.2.1 ≠ D ∧ Hx e.2.1 = some (.tup (e.2.2.map V.str))) ∧ Same H Hx)
      ⟨[], rfl, upd_same, (fun e he => nomatch he), same_new hD⟩ (fun n Hx _ ⟨_, _, _, _, z⟩ => SqL.of (z _ _ hl.1)) ?_ ?_
    · rintro n x Hx ex ⟨W, hW, hDW, hWs, sx⟩
      rw [List.getElem?_map] at ex
      obtain ⟨u, hu, rfl⟩ := Option.map_eq_some_iff.mp ex
      have um := List.mem_of_getElem? hu
      have er : (M.map (·.2))[n]? = some u.2 := by rw [List.getElem?_map, hu] <;> rfl
      have n100 : n < 100 := by
        have := (List.getElem?_eq_some_iff.mp hu).1
        omega
      have lu := len u um
      have hu1 := sx _ _ (hl.2 u um)
      have lW : W.length ≤ 100 := by
        have := congrArg List.length hW
        rw [List.length_map, List.length_map, List.length_take] at this
        omega
      refine ⟨rfl, ?_⟩
      refine ⟨_, rfl, _, rfl, u.1, u.2.map V.str, _, V.str (at_ u.2 i), rfl, rfl, SqT.of hu1, atI_nat (by rw [List.getElem?_map, at_get (by omega)] <;> rfl), _, rfl, _, rfl, u.1, u.2.map V.str, _, V.str (at_ u.2 j), rfl, rfl, SqT.of hu1, atI_nat (by rw [List.getElem?_map, at_get (by omega)] <;> rfl), (by show 2 ≤ sizeLine; decide), fun t nt => ?_⟩
      have st := same_new (o := .tup [V.str (at_ u.2 i), V.str (at_ u.2 j)]) nt
      refine ⟨by show 2 ≤ sizeLine; decide, fun q nq => ?_⟩
      have sq := same_new (o := .tup [V.ref t, V.bl true]) nq
      have hD2 := sq _ _ (st _ _ hDW)
      have tD : t ≠ D := fun z => by
        rw [z, hDW] at nt
        cases nt
      have qD : q ≠ D := fun z => by
        rw [z, st _ _ hDW] at nq
        cases nq
      refine ⟨_, hD2, by rw [List.length_map, sizeLine_eq]; omega, W ++ [(q, t, two i j u.2)], ?_, by rw [upd_same, List.map_append]; rfl, fun e he => ?_, fun b o z => (upd_ne (ne_of_none z hD)).trans (sq _ _ (st _ _ (sx _ _ z)))⟩
      · rw [List.map_append, hW, List.take_add_one, er, List.map_append]
        rfl
      · rcases List.mem_append.mp he with he | he
        · obtain ⟨⟨a1, a2⟩, b1, b2⟩ := hWs e he
          exact ⟨⟨a1, (upd_ne a1).trans (sq _ _ (st _ _ a2))⟩, b1, (upd_ne b1).trans (sq _ _ (st _ _ b2))⟩
        · rw [List.mem_singleton.mp he]
          exact ⟨⟨qD, (upd_ne qD).trans upd_same⟩, tD, (upd_ne tD).trans (sq _ _ upd_same)⟩
    · rintro Hx ⟨W, hW, hDW, hWs, sx⟩
      rw [l1, List.take_length] at hW
      have lW : W.length ≤ 100 := by
        have := congrArg List.length hW
        rw [List.length_map, List.length_map, List.length_map] at this
        omega
      refine ⟨D, W.map (·.1), W.map fun e => (e.2.1, kR e.2.2, V.bl true), rfl, SqL.of (by rw [List.map_map]; exact hDW), paired_maps fun e he => ⟨SqT.of (hWs e he).1.2, ?_⟩, fun q nq => ?_⟩
      · show Hx e.2.1 = some (.tup ((kR e.2.2).map kV))
        rw [kR_V]
        exact (hWs e he).2.2
      have sq := same_new (o := .dT (mergeT [] ((W.map fun e => (e.2.1, kR e.2.2, V.bl true)).map (·.2)))) nq
      obtain ⟨nd, mk⟩ := merge_keys ((W.map fun e => (e.2.1, kR e.2.2, V.bl true)).map (·.2)) [] List.nodup_nil
      have len4 : (mergeT [] ((W.map fun e => (e.2.1, kR e.2.2, V.bl true)).map (·.2))).length ≤ 100 := by
        have := mergeT_len ((W.map fun e => (e.2.1, kR e.2.2, V.bl true)).map (·.2)) []
        rw [List.length_map, List.length_map] at this
        simp only [List.length_nil] at this
        omega
      have from_ : ∀ k, k ∈ (mergeT [] ((W.map fun e => (e.2.1, kR e.2.2, V.bl true)).map (·.2))).map (·.1) ↔ ∃ x ∈ (M.map (·.2)).map (two i j), k = kR x := fun k => by
        rw [mk k, ← hW]
        constructor
        · rintro (z | z)
          · cases z
          · rw [List.map_map, List.map_map] at z
            obtain ⟨e, he, rfl⟩ := List.mem_map.mp z
            exact ⟨e.2.2, List.mem_map.mpr ⟨e, he, rfl⟩, rfl⟩
        · rintro ⟨x, hx, rfl⟩
          obtain ⟨e, he, rfl⟩ := List.mem_map.mp hx
          refine .inr ?_
          rw [List.map_map, List.map_map]
          exact List.mem_map.mpr ⟨e, he, rfl⟩
      refine ⟨q, _, 1, rfl, upd_same, nd, by omega, fun e he => ?_, fun M2 eM RM => ?_⟩
      · obtain ⟨x, hx, er⟩ := (from_ e.1).mp (List.mem_map.mpr ⟨e, he, rfl⟩)
        obtain ⟨r, hr, rfl⟩ := List.mem_map.mp hx
        exact ⟨_, er, rfl⟩
      intro M' L pm up nL
      have sL := same_new (o := .lst (M'.map fun e => V.ref e.1)) nL
      have s0 : Same H _ := fun b o z => sq _ _ (sx _ _ z)
      refine k L M' _ (none_back s0 nL) upd_same ((RM.perm pm).to sL) (fun x => ?_) fun b o z => sL _ _ (sq _ _ (sx _ _ z))
      rw [(pm.map (·.2)).mem_iff]
      have fk := from_ (kR x)
      rw [← eM] at fk
      constructor
      · intro hx
        obtain ⟨e, he, rfl⟩ := List.mem_map.mp hx
        obtain ⟨y, hy, ey⟩ := fk.mp (List.mem_map.mpr ⟨e, he, rfl⟩)
        rw [kR_inj ey]
        exact hy
      · intro hx
        obtain ⟨e, he, ee⟩ := List.mem_map.mp (fk.mpr ⟨x, hx, rfl⟩)
        exact List.mem_map.mpr ⟨e, he, kR_inj ee⟩
end
end Yt

set_option Elab.async false
set_option linter.all false
set_option maxRecDepth 100000
set_option maxHeartbeats 2000000
namespace Yt
open PySem PySem.Spec PyProof.Rows L2
abbrev sLByPairs : Stmt := top 60
abbrev byN : List Str := ["_law_marks_here", "_law_width", "_law_rows", "_law_pairs", "_law_two", "_law_row_here"]
abbrev scByRow : Scope := { kind := .function, names := [(".0", .local), ("_law_row_here", .cell), ("all", .globalImplicit), ("_law_pairs", .free)], isGenerator := false, isCoroutine := false, more := [] }
/-- whether a row has all pairs -/
def tHasL : TE := fun σ H Q => ∃ (u0 u1 u2 u4 : Option V) (t D : Addr) (d : Nat) (r : List Str) (rs : List (List Str)), σ = [u0, u1, u2, some (.ref D), u4, some (.ref t)] ∧ H t = some (.tup (r.map V.str)) ∧ r.length = d + 1 ∧ d ≤ 3 ∧ PairsAt H D d rs ∧ ∀ H', Same H H' → Q (.bl (hasP d rs r)) H'
section
variable {P : Program} {w : World} {K : PySem.W.Frag} {mg : Str → Option Value} {base : Heap} {f : Addr} {fd : FuncData}
theorem scLByPairs : FnScope byN ["_law_marks_here", "_law_width", "_law_rows"] (defScope sLByPairs) := ⟨rfl, rfl, rfl, by decide +kernel, rfl, by decide +kernel, by decide +kernel⟩
def spLByPairs : Sp := fun vs H Q _ => ∃ (a l : Addr) (ms : List Str) (d : Nat) (M : List (Addr × List Str)), vs = [.ref a, .int ((d + 1 : Nat) : Int), .ref l] ∧ H a = some (.lst (ms.map V.str)) ∧ RowsAt H l M ∧ (∀ e ∈ M, e.2.length = d + 1) ∧ ms.length ≤ 3 ∧ d ≤ 3 ∧ M.length ≤ 81 ∧
  ∀ (L : Addr) (N : List (Addr × List Str)) (H' : Hp), H L = none → RowsAt H' L N → N.map (·.2) = (rowsN ms (d + 1)).filter (hasP d (M.map (·.2))) → Same H H' → Q (.ref L) H'
theorem ok_lbypairs {f2 fP fE : Addr} {d2 dP dE : FuncData} (F : FnP K "_law_by_pairs" sLByPairs f fd) (T6 : Nm6 mg)
    (G2 : FnOk P w K mg base CX0 1 f2 d2 ["_law_width"] spTwos) (b2 : Binds K d2 ["_law_width"] []) (k2 : PySem.W.keepIn K (.ref f2) = true) (g2 : mg "_law_twos_of" = some (.ref f2))
    (GP : FnOk P w K mg base CX0 1 fP dP ["_law_rows", "_law_one", "_law_other"] spLPairRows) (bP : Binds K dP ["_law_rows", "_law_one", "_law_other"] []) (kP : PySem.W.keepIn K (.ref fP) = true) (gP : mg "_law_pair_rows" = some (.ref fP))
    (GE : FnOk P w K mg base CX0 1 fE dE ["_law_marks_here", "_law_width"] spLEvery) (bE : Binds K dE ["_law_marks_here", "_law_width"] []) (kE : PySem.W.keepIn K (.ref fE) = true) (gE : mg "_law_every" = some (.ref fE)) :
    FnOk P w K mg base CX0 2 f fd ["_law_marks_here", "_law_width", "_law_rows"] spLByPairs := by
  refine F.ok scLByPairs (fun vs H Q E h => ?_) (fun cdv A outer s H vs Q E hr h => ?_)
  · obtain ⟨a, l, ms, d, M, rfl, _⟩ := h
    rfl
  · obtain ⟨a, l, ms, d, M, rfl, ha, hl, len, few, d3, m81, k⟩ := h
    have hu4 := units4 hr
    have hu := hu_of hr
    refine ⟨_, PSs.nox (pss_cons (ps_set (i := 3) scLByPairs.nd rfl (Or.inr rfl) (pe_callTy (call_dictPT rfl (units_le hu4 (by decide))) (by rfl) T6.dict (by decide +kernel) (pa_cons
        (pe_lc (own := [("_law_two", 4)]) (g := gName 4) (tt := tYes) (te := tTup (tCons (tVar 4) (tCons (tCall spLPairRows [] E0 (tCons (tVar 2) (tCons (tOp (rIxT K) (tVar 4) (tC (.int 0))) (tCons (tOp (rIxT K) (tVar 4) (tC (.int 1))) tNil)))) tNil))) rfl scLByPairs.nd (pi_list (pe_call G2 (hr.mono (by decide)) rfl g2 k2 b2 .nil pass0 (pa_cons (pv 1) pa_nil))) (blkOk_by (own := [("_law_two", 4)]) (N := byN) (sc := defScope sLByPairs) (by decide +kernel))
          (fun _ _ _ _ _ => pg_name (i := 4) scLByPairs.nd rfl (Or.inl rfl)) (fun _ _ _ _ _ => pts_nil)
          (fun _ _ _ _ _ => pe_tup (pa_cons (pv 4) (pa_cons (pe_call GP (hr.mono (by decide)) rfl gP kP bP .nil pass0 (pa_cons (pv 2) (pa_cons (pe_ix ix_tup (pv 4) pe_int (fun _ _ => rfl)) (pa_cons (pe_ix ix_tup (pv 4) pe_int (fun _ _ => rfl)) pa_nil)))) pa_nil)))) pa_nil)))
      (pss_one (ps_ret (pe_lc (own := [("_law_row_here", 5)]) (g := gName 5) (tt := tB tHasL) (te := tVar 5) rfl scLByPairs.nd (pi_list (pe_call GE (hr.mono (by decide)) rfl gE kE bE .nil pass0 (pa_cons (pv 0) (pa_cons (pv 1) pa_nil)))) (blkOk_by (own := [("_law_row_here", 5)]) (N := byN) (sc := defScope sLByPairs) (by decide +kernel))
          (fun _ _ _ _ _ => pg_name (i := 5) scLByPairs.nd rfl (Or.inr rfl))
          (fun _ _ _ _ _ => pts_one (pt_val (pexW (pe_callB (cr_all rfl) (by rfl) T6.all (by decide +kernel) (pa_cons (pe_lock
            (pe_lc (own := [("_law_two", 4)]) (g := gName 4) (tt := tYes) (te := tOp (rInRows K) (tTup (tCons (tOp (rIxT K) (tVar 5) (tOp (rIxT K) (tVar 4) (tC (.int 0)))) (tCons (tOp (rIxT K) (tVar 5) (tOp (rIxT K) (tVar 4) (tC (.int 1)))) tNil))) (tDGet (tVar 3) (tVar 4))) rfl scLByPairs.nd (pi_keys (pv 3)) (blkOk_by (own := [("_law_two", 4)]) (N := byN) (sc := relS scByRow (defScope sLByPairs)) (by decide +kernel))
              (fun _ _ _ _ _ => pg_name (i := 4) scLByPairs.nd rfl (Or.inl rfl)) (fun _ _ _ _ _ => pts_nil)
              (fun _ _ _ _ _ => pe_cmpR (op_in_rows hu) (pe_tup (pa_cons (pe_ix ix_tup (pv 5) (pe_ix ix_tup (pv 4) pe_int (fun _ _ => rfl)) (fun _ _ => rfl)) (pa_cons (pe_ix ix_tup (pv 5) (pe_ix ix_tup (pv 4) pe_int (fun _ _ => rfl)) (fun _ _ => rfl)) pa_nil))) (pe_dget hu (pv 3) (pv 4) (fun _ _ => rfl)) (by rfl)))) pa_nil)) fun σ H Q hq => ?_)))
          (fun _ _ _ _ _ => pv 5))))), ?_⟩
    · obtain ⟨u0, u1, u2, u4, t, Dp, d, r, rs, rfl, ht, lr, d3, ⟨kvs, hD, ek, ev⟩, k⟩ := hq
      have lk : kvs.length = (twosN (d + 1)).length := by
        have := congrArg List.length ek
        rwa [List.length_map, List.length_map] at this
      have few2 : (twosN (d + 1)).length ≤ 10 := by
        match d, d3 with
        | 0, _ => decide
        | 1, _ => decide
        | 2, _ => decide
        | 3, _ => decide
      have knd : (kvs.map (·.1)).Nodup := by
        rw [ek]
        exact List.pairwise_map.mpr (List.Pairwise.imp (fun {p q} hpq e => hpq (KV2_inj (p := p) (q := q) e)) (twosN_nodup d3))
      refine ⟨Dp, .dT kvs, hD, trivial, fun od => ?_⟩
      have keep : ∀ {b : Addr} {o : HO}, (∀ m, o ≠ .dT m) → H b = some o → (upd H Dp (.frz od (.dT kvs))) b = some o := fun {b o} ne z => (upd_ne (fun y => by
        rw [y, hD] at z
        exact ne _ (Option.some.inj z).symm)).trans z
      refine ⟨_, rfl, Dp, od, rfl, .inr ⟨kvs, upd_same, fun D hDn => ?_⟩⟩
      have nDd : D ≠ Dp := fun z => by
        rw [z, upd_same] at hDn
        cases hDn
      refine lc_it (walk_keysT (d := Dp) (o := od) (kvs := kvs)) (fun i Hx => Hx D = some (.lst ((((twosN (d + 1)).take i).map fun p => decide (two p.1 p.2 r ∈ rs.map (two p.1 p.2))).map V.bl)) ∧ Same (upd H Dp (.frz od (.dT kvs))) Hx) ⟨upd_same, same_new hDn⟩ (fun i Hx _ q => q.2 _ _ upd_same) ?_ ?_
      · rintro i v Hx H7 hi ⟨q1, q2⟩ ⟨rfl, kk, vv, q, ei, rfl, hq⟩
        obtain ⟨i0, j0, L, N, e1, hL, RN, mN⟩ := ev _ (List.mem_of_getElem? ei)
        cases e1
        have ep : (kvs.map (·.1))[i]? = some (KV2 i0 j0) := by rw [List.getElem?_map, ei] <;> rfl
        rw [ek, List.getElem?_map] at ep
        obtain ⟨pp, hpp, epp⟩ := Option.map_eq_some_iff.mp ep
        have epp : pp = (i0, j0) := KV2_inj (p := pp) (q := (i0, j0)) epp
        subst epp
        obtain ⟨ij, jd⟩ := twosN_mem.mp (List.mem_of_getElem? hpp)
        have ij : i0 ≤ j0 := ij
        have jd : j0 < d + 1 := jd
        have sH : ∀ {b : Addr} {o : HO}, (∀ m, o ≠ .dT m) → H b = some o → H7 b = some o := fun ne z => q2 _ _ (keep ne z)
        have hq' : H7 q = some (.tup [V.int (i0 : Nat), V.int (j0 : Nat)]) := hq
        have ht' := sH (by intro m z; cases z) ht
        refine ⟨rfl, ?_⟩
        refine ⟨_, rfl, _, rfl, q, _, _, V.int (i0 : Nat), rfl, rfl, SqT.of hq', rfl, t, r.map V.str, _, V.str (at_ r i0), rfl, rfl, SqT.of ht', atI_nat (by rw [List.getElem?_map, at_get (by omega)] <;> rfl), ?_⟩
        refine ⟨_, rfl, _, rfl, q, _, _, V.int (j0 : Nat), rfl, rfl, SqT.of hq', rfl, t, r.map V.str, _, V.str (at_ r j0), rfl, rfl, SqT.of ht', atI_nat (by rw [List.getElem?_map, at_get (by omega)] <;> rfl), (by show 2 ≤ sizeLine; decide), fun u nu => ?_⟩
        have su := same_new (o := .tup [V.str (at_ r i0), V.str (at_ r j0)]) nu
        refine ⟨_, rfl, _, rfl, Dp, .ref L, rfl, .inr ⟨kvs, KV2 i0 j0, q, .inr ⟨od, su _ _ (q2 _ _ upd_same)⟩, rfl, su _ _ hq', (valV_at knd ei).symm⟩, ?_⟩
        refine ⟨u, L, two i0 j0 r, N, rfl, rfl, upd_same, su _ _ (sH (by intro m z; cases z) hL), fun e he => su _ _ (sH (by intro m z; cases z) (RN.at_ e he)), ?_⟩
        refine ⟨_, su _ _ q1, ?_, ?_, fun b o z => (upd_ne (ne_of_none z hDn)).trans (su _ _ (q2 _ _ z))⟩
        · rw [List.length_map, List.length_map, List.length_take]
          exact len_ok (by omega)
        · rw [upd_same, List.take_add_one, hpp, List.map_append, List.map_append]
          have e1 : decide (two i0 j0 r ∈ N.map (·.2)) = decide (two i0 j0 r ∈ rs.map (two i0 j0)) := by
            by_cases c : two i0 j0 r ∈ rs.map (two i0 j0)
            · rw [decide_eq_true c, decide_eq_true ((mN _).mpr c)]
            · rw [decide_eq_false c, decide_eq_false (fun z => c ((mN _).mp z))]
          rw [e1]
          rfl
      · rintro Hx ⟨q1, q2⟩
        rw [lk, List.take_length] at q1
        refine ⟨q2 _ _ upd_same, D, _, rfl, SqL.of ((upd_ne nDd).trans q1), ?_⟩
        have e1 : (((twosN (d + 1)).map fun p => decide (two p.1 p.2 r ∈ rs.map (two p.1 p.2))).all id) = hasP d rs r := by
          unfold hasP
          rw [List.all_map]
          rfl
        rw [e1]
        refine k _ fun b o z => ?_
        by_cases hb : b = Dp
        · rw [hb, hD] at z
          rw [hb, ← z]
          exact upd_same
        · exact (upd_ne hb).trans (q2 _ _ ((upd_ne hb).trans z))
    · refine ⟨_, rfl, d, rfl, d3, fun L2 M2 H2 nL2 hL2 eM2 hM2 s2 => ⟨L2, rfl, ⟨_, SqL.of hL2⟩, fun D hD => ?_⟩⟩
      have ml : (M2.map fun e => V.ref e.1).length = (twosN (d + 1)).length := by rw [← eM2, List.length_map, List.length_map]
      have few2 : (twosN (d + 1)).length ≤ 10 := by
        match d, d3 with
        | 0, _ => decide
        | 1, _ => decide
        | 2, _ => decide
        | 3, _ => decide
      refine lc_list (K := K) (a := L2) (xs := M2.map fun e => V.ref e.1) (fun n Hx => ∃ W : List (Addr × Addr × (Nat × Nat) × Addr), W.map (fun e => e.2.2.1) = (twosN (d + 1)).take n ∧ Hx D = some (.lst (W.map fun e => V.ref e.1)) ∧
          (∀ e ∈ W, Hx e.1 = some (.tup [.ref e.2.1, .ref e.2.2.2]) ∧ Hx e.2.1 = some (.tup [.int (e.2.2.1.1 : Nat), .int (e.2.2.1.2 : Nat)]) ∧ e.2.2.2 ≠ D ∧ ∃ N : List (Addr × List Str), Hx e.2.2.2 = some (.lst (N.map fun e => V.ref e.1)) ∧ RowsIn Hx 1 N ∧ ∀ x, x ∈ N.map (·.2) ↔ x ∈ (M.map (·.2)).map (two e.2.2.1.1 e.2.2.1.2)) ∧ Same H2 Hx)
        ⟨[], rfl, upd_same, (fun e he => nomatch he), same_new hD⟩ (fun i Hx _ ⟨_, _, _, _, z⟩ => SqL.of (z _ _ hL2)) ?_ ?_
      · rintro n x Hx hx ⟨W, hW, hDW, hWs, sx⟩
        rw [List.getElem?_map] at hx
        obtain ⟨e, he, rfl⟩ := Option.map_eq_some_iff.mp hx
        have em := List.mem_of_getElem? he
        have er : (twosN (d + 1))[n]? = some e.2 := by rw [← eM2, List.getElem?_map, he] <;> rfl
        obtain ⟨ij, jd⟩ := twosN_mem.mp (List.mem_of_getElem? er)
        have ht := sx _ _ (hM2 e em)
        have lW : W.length ≤ 10 := by
          have := congrArg List.length hW
          rw [List.length_map, List.length_take] at this
          omega
        have s2x : Same H Hx := fun b o z => sx _ _ (s2 _ _ z)
        refine ⟨rfl, ?_⟩
        refine ⟨_, rfl, _, rfl, _, rfl, e.1, _, _, V.int (e.2.1 : Nat), rfl, rfl, SqT.of ht, rfl, _, rfl, e.1, _, _, V.int (e.2.2 : Nat), rfl, rfl, SqT.of ht, rfl, ?_⟩
        refine ⟨l, e.2.1, e.2.2, d, M, rfl, hl.to s2x, len, by omega, jd, by omega, fun L N H5 nL hL RN mN s5 => ?_⟩
        have LD : L ≠ D := fun z => by
          rw [z, hDW] at nL
          cases nL
        refine ⟨by show 2 ≤ sizeLine; decide, fun q nq => ?_⟩
        have sq := same_new (o := .tup [V.ref e.1, V.ref L]) nq
        have sxq : Same Hx (upd H5 q (.tup [V.ref e.1, V.ref L])) := fun b o z => sq _ _ (s5 _ _ z)
        have hDq := sxq _ _ hDW
        have upD : ∀ {b : Addr} {o : HO} {l' : List V}, (∀ m, o ≠ .lst m) → (upd H5 q (.tup [V.ref e.1, V.ref L])) b = some o → (upd (upd H5 q (.tup [V.ref e.1, V.ref L])) D (.lst l')) b = some o := fun {b o l'} ne z => (upd_ne (fun y => by
          rw [y, hDq] at z
          exact ne _ (Option.some.inj z).symm)).trans z
        have upR : ∀ {N : List (Addr × List Str)} {l' : List V}, RowsIn (upd H5 q (.tup [V.ref e.1, V.ref L])) 1 N → RowsIn (upd (upd H5 q (.tup [V.ref e.1, V.ref L])) D (.lst l')) 1 N := fun {N l'} R => ⟨fun e he => upD (by intro m z; cases z) (R.at_ e he), R.len, R.few⟩
        refine ⟨_, hDq, by rw [List.length_map, sizeLine_eq]; omega, W ++ [(q, e.1, e.2, L)], ?_, by rw [upd_same, List.map_append]; rfl, fun u hu => ?_, fun b o z => (upd_ne (ne_of_none z hD)).trans (sxq _ _ (sx _ _ z))⟩
        · rw [List.map_append, hW, List.take_add_one, er]
          rfl
        · rcases List.mem_append.mp hu with hu | hu
          · obtain ⟨a1, a2, a3, N', a4, a5, a6⟩ := hWs u hu
            exact ⟨upD (by intro m z; cases z) (sxq _ _ a1), upD (by intro m z; cases z) (sxq _ _ a2), a3, N', (upd_ne a3).trans (sxq _ _ a4), upR (a5.to sxq), a6⟩
          · rw [List.mem_singleton.mp hu]
            exact ⟨upD (by intro m z; cases z) upd_same, upD (by intro m z; cases z) (sxq _ _ ht), LD, N, (upd_ne LD).trans (sq _ _ hL), upR (RN.to sq), mN⟩
      · rintro Hx ⟨W, hW, hDW, hWs, sx⟩
        rw [ml, List.take_length] at hW
        refine ⟨D, W.map (·.1), W.map fun e => (e.2.1, KV2 e.2.2.1.1 e.2.2.1.2, V.ref e.2.2.2), rfl, SqL.of (by rw [List.map_map]; exact hDW), paired_maps fun e he => ⟨SqT.of (hWs e he).1, (hWs e he).2.1⟩, fun q nq => ?_⟩
        have ekeys : ((W.map fun e => (e.2.1, KV2 e.2.2.1.1 e.2.2.1.2, V.ref e.2.2.2)).map (·.2)).map (·.1) = (twosN (d + 1)).map fun p => KV2 p.1 p.2 := by
          rw [← hW, List.map_map, List.map_map, List.map_map]
          rfl
        have knd : (((W.map fun e => (e.2.1, KV2 e.2.2.1.1 e.2.2.1.2, V.ref e.2.2.2)).map (·.2)).map (·.1)).Nodup := by
          rw [ekeys]
          exact List.pairwise_map.mpr (List.Pairwise.imp (fun {p q} hpq e => hpq (KV2_inj (p := p) (q := q) e)) (twosN_nodup d3))
        rw [mergeT_unlike _ [] knd, List.nil_append]
        have sq := same_new (o := .dT ((W.map fun e => (e.2.1, KV2 e.2.2.1.1 e.2.2.1.2, V.ref e.2.2.2)).map (·.2))) nq
        have PA : PairsAt (upd Hx q (.dT ((W.map fun e => (e.2.1, KV2 e.2.2.1.1 e.2.2.1.2, V.ref e.2.2.2)).map (·.2)))) q d (M.map (·.2)) := by
          refine ⟨_, upd_same, ekeys, fun e he => ?_⟩
          rw [List.map_map] at he
          obtain ⟨u, hu, rfl⟩ := List.mem_map.mp he
          obtain ⟨a1, a2, a3, N', a4, a5, a6⟩ := hWs u hu
          exact ⟨_, _, _, N', rfl, sq _ _ a4, a5.to sq, a6⟩
        have s0 : Same H (upd Hx q (.dT ((W.map fun e => (e.2.1, KV2 e.2.2.1.1 e.2.2.1.2, V.ref e.2.2.2)).map (·.2)))) := fun b o z => sq _ _ (sx _ _ (s2 _ _ z))
        generalize upd Hx q (.dT ((W.map fun e => (e.2.1, KV2 e.2.2.1.1 e.2.2.1.2, V.ref e.2.2.2)).map (·.2))) = G at PA s0 ⊢
        refine ⟨_, rfl, _, rfl, a, ms, d + 1, rfl, s0 _ _ ha, few, by omega, fun L5 M5 H5 nL5 hL5 eM5 s5 => ⟨L5, rfl, ⟨_, SqL.of hL5.1⟩, fun D5 hD5 => ?_⟩⟩
        have PA5 := PA.to s5
        have l5 : (M5.map fun e => V.ref e.1).length = (rowsN ms (d + 1)).length := by rw [← eM5, List.length_map, List.length_map]
        have lR : (rowsN ms (d + 1)).length ≤ 81 := by
          rw [rowsN_len]
          exact Nat.le_trans (Nat.pow_le_pow_left few _) (Nat.le_trans (Nat.pow_le_pow_right (by decide) (show d + 1 ≤ 4 by omega)) (by decide))
        refine lc_list (K := K) (a := L5) (xs := M5.map fun e => V.ref e.1) (fun j Hx => Built D5 H5 (((rowsN ms (d + 1)).take j).filter (hasP d (M.map (·.2)))) Hx) (Built.first hD5) (fun j Hx _ ⟨_, _, _, _, z⟩ => SqL.of (z _ _ hL5.1)) ?_ ?_
        · rintro j v Hy ey hB
          rw [List.getElem?_map] at ey
          obtain ⟨u, hu, rfl⟩ := Option.map_eq_some_iff.mp ey
          have um := List.mem_of_getElem? hu
          have er : (rowsN ms (d + 1))[j]? = some u.2 := by rw [← eM5, List.getElem?_map, hu] <;> rfl
          have ul := ((rowsN_mem ms (d + 1) u.2).mp (List.mem_of_getElem? er)).1
          obtain ⟨_, _, _, _, sy⟩ := id hB
          have hu5 := sy _ _ (hL5.2 u um)
          have ef : ((rowsN ms (d + 1)).take (j + 1)).filter (hasP d (M.map (·.2))) = ((rowsN ms (d + 1)).take j).filter (hasP d (M.map (·.2))) ++ (if hasP d (M.map (·.2)) u.2 = true then [u.2] else []) := by
            rw [List.take_add_one, er, List.filter_append]
            show _ ++ List.filter _ [u.2] = _
            by_cases c : hasP d (M.map (·.2)) u.2 = true
            · rw [List.filter_cons_of_pos c, if_pos c] <;> rfl
            · rw [List.filter_cons_of_neg c, if_neg c] <;> rfl
          refine ⟨rfl, ?_⟩
          refine ⟨_, _, _, _, u.1, q, d, u.2, M.map (·.2), rfl, hu5, ul, d3, PA5.to sy, fun H6 s6 => ⟨_, rfl, ?_⟩⟩
          show (if hasP d (M.map (·.2)) u.2 = true then _ else _)
          by_cases c : hasP d (M.map (·.2)) u.2 = true
          · rw [if_pos c]
            obtain ⟨acc, b1, b2, b3⟩ := hB.more hD5 s6 (s6 _ _ hu5)
            refine ⟨_, rfl, acc, b1, ?_, ?_⟩
            · rw [b2, sizeLine_eq]
              have := List.length_filter_le (hasP d (M.map (·.2))) ((rowsN ms (d + 1)).take j)
              rw [List.length_take] at this
              omega
            · rw [ef, if_pos c]
              exact b3
          · rw [if_neg c, ef, if_neg c, List.append_nil]
            obtain ⟨M', b1, b2, b3, b4⟩ := hB
            exact ⟨M', s6 _ _ b1, b2, fun e he => ⟨(b3 e he).1, s6 _ _ (b3 e he).2⟩, fun b o z => s6 _ _ (b4 _ _ z)⟩
        · rintro Hy ⟨W5, q1, q2, q3, q4⟩
          rw [l5, List.take_length] at q2
          exact k D5 W5 Hy (none_back (fun b o z => s5 _ _ (s0 _ _ z)) hD5) ⟨q1, fun e he => (q3 e he).2⟩ q2 fun b o z => q4 _ _ (s5 _ _ (s0 _ _ z))
end
end Yt

set_option Elab.async false
set_option linter.all false
set_option maxRecDepth 100000
set_option maxHeartbeats 2000000
namespace Yt
open PySem PySem.Spec PyProof.Rows L2
abbrev sLawMaj : Stmt := top 50
/-- what a majority may give to a row -/
def MajV (ms : List Str) (k : List Key) (v : V) : Prop := (twK k ≠ .non → v = twK k) ∧ ∃ z ∈ ms, v = .str z
def spLawMaj : Sp := fun vs H Q _ => ∃ (p a : Addr) (ms : List Str) (f : Nat), vs = [.ref p, .ref a] ∧ a ≠ p ∧ H a = some (.lst (ms.map V.str)) ∧ MarksOk ms ∧ PurseAt H p (f + 125) ∧
  ∀ (L : Addr) (m : List (List Key × V)) (H' : Hp), H L = none → H' L = some (.dT m) → m.map (·.1) = growN ms 3 → (∀ e ∈ m, MajV ms e.1 e.2) → PurseAt H' p f → But p H H' → Q (.ref L) H'
section
variable {P : Program} {w : World} {K : PySem.W.Frag} {mg : Str → Option Value} {base : Heap} {f : Addr} {fd : FuncData}
theorem scLawMaj : FnScope ["_law_purse_here", "_law_marks_here", "_law_found", "_law_one", "_law_two", "_law_three"] ["_law_purse_here", "_law_marks_here"] (defScope sLawMaj) := ⟨rfl, rfl, rfl, by decide +kernel, rfl, by decide +kernel, by decide +kernel⟩
theorem ok_lawmaj {fT fO : Addr} {dT dO : FuncData} (F : FnP K "_law_majority" sLawMaj f fd)
    (GT : FnOk P w K mg base CX0 1 fT dT ["_law_marks_here"] (spThrees K)) (bT : Binds K dT ["_law_marks_here"] []) (kT : PySem.W.keepIn K (.ref fT) = true) (gT : mg "_law_threes" = some (.ref fT))
    (GO : FnOk P w K mg base CX0 3 fO dO ["_law_purse_here", "_law_some"] (spOne K)) (bO : Binds K dO ["_law_purse_here", "_law_some"] []) (kO : PySem.W.keepIn K (.ref fO) = true) (gO : mg "_law_one_of" = some (.ref fO)) :
    FnOk P w K mg base CX0 4 f fd ["_law_purse_here", "_law_marks_here"] spLawMaj := by
  refine F.ok scLawMaj (fun vs H Q E h => ?_) (fun cdv A outer s H vs Q E hr h => ?_)
  · obtain ⟨p, a, ms, g, rfl, _⟩ := h
    rfl
  · obtain ⟨p, a, ms, g, rfl, ap, ha, hm, hP, k⟩ := h
    have hu := hu_of hr
    refine ⟨_, PSs.nox (pss_cons (ps_set (i := 2) scLawMaj.nd rfl (Or.inl rfl) pe_dnewT)
      (pss_cons (ps_for PassesOwn.never rfl (pi_list (pe_call GT (hr.mono (by decide)) rfl gT kT bT .nil pass0 (pa_cons (pv 1) pa_nil))) (pg_tup rfl (pgs_cons (pg_name (i := 3) scLawMaj.nd rfl (Or.inl rfl)) (pgs_cons (pg_name (i := 4) scLawMaj.nd rfl (Or.inl rfl)) (pgs_cons (pg_name (i := 5) scLawMaj.nd rfl (Or.inl rfl)) pgs_nil))))
        (pss_one (ps_if (PW.pt (pw_or (pt_cmpR op_eq (pv 3) (pv 4) (nomark _)) (pw_or1 (pt_cmpR op_eq (pv 3) (pv 5) (nomark _)))))
          (pss_one (ps_dput hu (pv 2) (pe_tup (pa_cons (pv 3) (pa_cons (pv 4) (pa_cons (pv 5) pa_nil)))) (pv 3) rfl))
          (pss_one (ps_dput hu (pv 2) (pe_tup (pa_cons (pv 3) (pa_cons (pv 4) (pa_cons (pv 5) pa_nil)))) (pe_ifExp (pt_cmpR op_eq (pv 4) (pv 5) (nomark _)) (pv 4) (pe_call GO hr rfl gO kO bO .nil pass0 (pa_cons (pv 0) (pa_cons (pv 1) pa_nil)))) rfl)))))
      (pss_one (ps_ret (pv 2))))), ?_⟩
    have few : (growN ms 3).length ≤ 125 := by
      rw [growN_len]
      exact Nat.pow_le_pow_left hm.2.1 3
    have nd := growN_nodup hm.2.2.1.nodup 3
    have m0 := hm.1
    have m5 := hm.2.1
    refine fun L nL => ?_
    have sL := same_new (o := .dT []) nL
    have Lp : L ≠ p := fun q => by
      obtain ⟨o, e⟩ := hP.some
      rw [q, e] at nL
      cases nL
    refine ⟨_, rfl, a, ms, rfl, SqL.of (sL _ _ ha), hm.2.1, fun T ts H3 nT hT pT s3 => ?_⟩
    have hL3 := s3 _ _ (upd_same (H := H) (a := L) (o := .dT []))
    have LT : L ≠ T := fun q => by
      rw [← q, upd_same] at nT
      cases nT
    have Tp : T ≠ p := fun q => by
      obtain ⟨o, e⟩ := hP.some
      rw [q, sL _ _ e] at nT
      cases nT
    have tl : ts.length = (growN ms 3).length := Paired.length pT
    -- what stands still
    let Keep : Hp → Hp → Prop := fun A B => ∀ b o, b ≠ p → b ≠ L → A b = some o → B b = some o
    refine ⟨T, rfl, ⟨_, SqL.of hT⟩, for_list (K := K) (a := T) (xs := ts.map V.ref) (fun i σ Hc => ∃ (v3 v4 v5 : Option V) (m : List (List Key × V)), σ = [some (.ref p), some (.ref a), some (.ref L), v3, v4, v5] ∧ Hc L = some (.dT m) ∧ m.map (·.1) = (growN ms 3).take i ∧ (∀ e ∈ m, MajV ms e.1 e.2) ∧ PurseAt Hc p (g + (125 - i)) ∧ Keep H3 Hc)
      ⟨none, none, none, [], rfl, hL3, rfl, (fun e he => nomatch he), (hP.to fun o e => s3 _ _ (sL _ _ e)), fun b o _ _ e => e⟩ (fun i σ Hc _ ⟨_, _, _, _, _, _, _, _, _, z⟩ => SqL.of (z _ _ Tp LT.symm hT)) ?_ ?_⟩
    · rintro i u σ Hc hi ⟨v3, v4, v5, m, rfl, hL, hk, hv, hPc, hB⟩
      rw [List.getElem?_map] at hi
      obtain ⟨t, et, rfl⟩ := Option.map_eq_some_iff.mp hi
      obtain ⟨kk, ek, ht0⟩ := paired_at' pT et
      have il : i < 125 := by
        have ilt := (List.getElem?_eq_some_iff.mp ek).1
        omega
      obtain ⟨x, y, z, hx, hy, hz, rfl⟩ := grow3_form (List.mem_of_getElem? ek)
      have tp : t ≠ p := fun q => by
        obtain ⟨x', y', c', t', e, _⟩ := hP
        have e3 := s3 _ _ (sL _ _ e)
        have z : H3 t = some (.tup _) := ht0
        rw [q, e3] at z
        cases z
      have tL : t ≠ L := fun q => by
        have z : H3 t = some (.tup _) := ht0
        rw [q, hL3] at z
        cases z
      have ht : Hc t = some (.tup [V.str x, V.str y, V.str z]) := hB _ _ tp tL ht0
      have aL : a ≠ L := ne_of_none ha nL
      have hac := hB _ _ ap aL (s3 _ _ (sL _ _ ha))
      have ml : m.length = i := by
        have cl := congrArg List.length hk
        have ilt := (List.getElem?_eq_some_iff.mp ek).1
        rw [List.length_map, List.length_take] at cl
        omega
      have fin : ∀ (v : V) (Hd : Hp) (tk : Addr), Hd tk = none → Hd L = some (.dT m) → MajV ms [Sum.inr x, Sum.inr y, Sum.inr z] v → PurseAt Hd p (g + (125 - (i + 1))) → Keep H3 Hd →
          ∃ m', (upd (upd Hd tk (.tup [V.str x, V.str y, V.str z])) L (.dT (putK m [Sum.inr x, Sum.inr y, Sum.inr z] v))) L = some (.dT m') ∧ m'.map (·.1) = (growN ms 3).take (i + 1) ∧ (∀ e ∈ m', MajV ms e.1 e.2) ∧
            PurseAt (upd (upd Hd tk (.tup [V.str x, V.str y, V.str z])) L (.dT (putK m [Sum.inr x, Sum.inr y, Sum.inr z] v))) p (g + (125 - (i + 1))) ∧ Keep H3 (upd (upd Hd tk (.tup [V.str x, V.str y, V.str z])) L (.dT (putK m [Sum.inr x, Sum.inr y, Sum.inr z] v))) := by
        intro v Hd tk ntk hLd mv hPd hBd
        have et : (growN ms 3).take (i + 1) = (growN ms 3).take i ++ [[Sum.inr x, Sum.inr y, Sum.inr z]] := by rw [List.take_add_one, ek] <;> rfl
        have fresh : ([Sum.inr x, Sum.inr y, Sum.inr z] : List Key) ∉ m.map (·.1) := by
          rw [hk]
          intro q
          rw [← List.take_append_drop (i + 1) (growN ms 3), et] at nd
          exact (List.nodup_append.mp (List.nodup_append.mp nd).1).2.2 _ q _ (List.mem_singleton.mpr rfl) rfl
        have st := same_new (o := .tup [V.str x, V.str y, V.str z]) ntk
        refine ⟨_, upd_same, ?_, fun e he => ?_, hPd.to fun o e => (upd_ne Lp.symm).trans (st _ _ e), fun b o n1 n2 e => (upd_ne n2).trans (st _ _ (hBd _ _ n1 n2 e))⟩
        · rw [putK_new fresh, List.map_append, hk, et]
          rfl
        · rw [putK_new fresh] at he
          rcases List.mem_append.mp he with he | he
          · exact hv e he
          · rw [List.mem_singleton.mp he]
            exact mv
      have fewm : m.length < sizeLine := len_ok (by omega)
      have put : ∀ {Hd : Hp} {tk : Addr}, Hd tk = none → Hd L = some (.dT m) → ∀ v, DPut (upd Hd tk (.tup [V.str x, V.str y, V.str z])) L (.ref tk) v (upd (upd Hd tk (.tup [V.str x, V.str y, V.str z])) L (.dT (putK m [Sum.inr x, Sum.inr y, Sum.inr z] v))) := fun {Hd tk} ntk hLd v =>
        DPut.t (k := [Sum.inr x, Sum.inr y, Sum.inr z]) (same_new ntk _ _ hLd) upd_same fewm
      refine ⟨t, _, rfl, SqT.of ht, rfl, _, _, rfl, _, _, rfl, _, _, rfl, rfl, ?_⟩
      have hP1 : PurseAt Hc p (g + (125 - (i + 1))) := hPc.less (by omega)
      refine ⟨_, rfl, _, rfl, rfl, decide (x = y), dec_str x y, ?_⟩
      by_cases e1 : x = y
      · rw [decide_eq_true e1]
        refine iteT ?_
        have mv : MajV ms [Sum.inr x, Sum.inr y, Sum.inr z] (.str x) := ⟨fun _ => by show V.str x = twiceV x y z; simp [twiceV, e1], x, hx, rfl⟩
        refine ⟨_, rfl, _, rfl, _, rfl, _, rfl, _, rfl, (by show 3 ≤ sizeLine; decide), fun tk ntk => ⟨L, _, rfl, put ntk hL _, ?_⟩⟩
        obtain ⟨m', r⟩ := fin _ Hc tk ntk hL mv hP1 hB
        exact ⟨_, _, _, m', rfl, r⟩
      · rw [decide_eq_false e1]
        refine iteF ?_
        refine ⟨_, rfl, _, rfl, rfl, decide (x = z), dec_str x z, ?_⟩
        by_cases e2 : x = z
        · rw [decide_eq_true e2]
          refine iteT ?_
          have mv : MajV ms [Sum.inr x, Sum.inr y, Sum.inr z] (.str x) := ⟨fun _ => by show V.str x = twiceV x y z; simp [twiceV, e2], x, hx, rfl⟩
          refine ⟨_, rfl, _, rfl, _, rfl, _, rfl, _, rfl, (by show 3 ≤ sizeLine; decide), fun tk ntk => ⟨L, _, rfl, put ntk hL _, ?_⟩⟩
          obtain ⟨m', r⟩ := fin _ Hc tk ntk hL mv hP1 hB
          exact ⟨_, _, _, m', rfl, r⟩
        · rw [decide_eq_false e2]
          refine iteF ?_
          refine ⟨_, rfl, _, rfl, rfl, decide (y = z), dec_str y z, ?_⟩
          by_cases e3 : y = z
          · rw [decide_eq_true e3]
            refine iteT ?_
            have mv : MajV ms [Sum.inr x, Sum.inr y, Sum.inr z] (.str y) := ⟨fun _ => by
              show V.str y = twiceV x y z
              unfold twiceV
              rw [if_neg (by simp [e1, e2]), if_pos e3], y, hy, rfl⟩
            refine ⟨_, rfl, _, rfl, _, rfl, _, rfl, _, rfl, (by show 3 ≤ sizeLine; decide), fun tk ntk => ⟨L, _, rfl, put ntk hL _, ?_⟩⟩
            obtain ⟨m', r⟩ := fin _ Hc tk ntk hL mv hP1 hB
            exact ⟨_, _, _, m', rfl, r⟩
          · rw [decide_eq_false e3]
            refine iteF ?_
            have e5 : g + (125 - i) = (g + (125 - (i + 1))) + 1 := by omega
            rw [e5] at hPc
            refine ⟨_, rfl, _, rfl, p, a, _, ms.map V.str, rfl, hPc, SqL.of hac, ap, ⟨by rw [List.length_map]; omega, by rw [List.length_map]; omega⟩, fun j v Hd hj hPd hBd => ?_⟩
            rw [List.getElem?_map] at hj
            obtain ⟨c, ec, rfl⟩ := Option.map_eq_some_iff.mp hj
            have mv : MajV ms [Sum.inr x, Sum.inr y, Sum.inr z] (.str c) := ⟨fun hn => by
              exfalso
              refine hn ?_
              show twiceV x y z = V.non
              unfold twiceV
              rw [if_neg (by simp [e1, e2]), if_neg e3], c, List.mem_of_getElem? ec, rfl⟩
            have hLd := hBd _ _ Lp hL
            refine ⟨_, rfl, _, rfl, _, rfl, _, rfl, (by show 3 ≤ sizeLine; decide), fun tk ntk => ⟨L, _, rfl, put ntk hLd _, ?_⟩⟩
            obtain ⟨m', r⟩ := fin _ Hd tk ntk hLd mv hPd fun b o n1 n2 e => hBd _ _ n1 (hB _ _ n1 n2 e)
            exact ⟨_, _, _, m', rfl, r⟩
    · rintro σ Hc ⟨v3, v4, v5, m, rfl, hL, hk, hv, hPc, hB⟩
      rw [List.length_map, tl, List.take_length] at hk
      exact ⟨_, rfl, k L m Hc nL hL hk hv (hPc.less (by omega)) fun b o n e => hB _ _ n (ne_of_none e nL) (s3 _ _ (sL _ _ e))⟩
end
end Yt

set_option Elab.async false
set_option linter.all false
set_option maxRecDepth 100000
set_option maxHeartbeats 2000000
namespace Yt
open PySem PySem.Spec PyProof.Rows L2
theorem hasP_iff {d : Nat} {rs : List (List Str)} {r : List Str} : hasP d rs r = true ↔ ∀ i j, i ≤ j → j < d + 1 → ∃ u ∈ rs, at_ u i = at_ r i ∧ at_ u j = at_ r j := by
  unfold hasP
  rw [List.all_eq_true]
  constructor
  · intro h i j ij jd
    obtain ⟨u, hu, e⟩ := List.mem_map.mp (of_decide_eq_true (h (i, j) (twosN_mem.mpr ⟨ij, jd⟩)))
    simp only [two, List.cons.injEq, and_true] at e
    exact ⟨u, hu, e.1, e.2⟩
  · intro h p hp
    obtain ⟨ij, jd⟩ := twosN_mem.mp hp
    obtain ⟨u, hu, e1, e2⟩ := h p.1 p.2 ij jd
    refine decide_eq_true (List.mem_map.mpr ⟨u, hu, ?_⟩)
    simp only [two, e1, e2]
def LeftBy (ms : List Str) (d : Nat) (rs : List (List Str)) (r : List Str) : Prop := (r.length = d + 1 ∧ ∀ z ∈ r, z ∈ ms) ∧ hasP d rs r = true
/-- no row is more by the pairs -/
def Told (ms : List Str) (d : Nat) (rs : List (List Str)) : Prop := ∀ r, LeftBy ms d rs r → r ∈ rs
theorem left_has {ms : List Str} {d : Nat} {rs : List (List Str)} (len : ∀ r ∈ rs, r.length = d + 1) (o : Over ms rs) {r : List Str} (h : r ∈ rs) : LeftBy ms d rs r := by
  refine ⟨⟨len r h, o r h⟩, ?_⟩
  unfold hasP
  rw [List.all_eq_true]
  exact fun p _ => decide_eq_true (List.mem_map.mpr ⟨r, h, rfl⟩)
theorem rlt_app : ∀ {x y : List Str} (a b : List Str), rlt x y = true → x.length = y.length → rlt (x ++ a) (y ++ b) = true
  | [], [], _, _, h, _ => by cases h
  | [], _ :: _, _, _, h, _ => by cases h
  | _ :: _, [], _, _, h, _ => by cases h
  | x :: xs, y :: ys, a, b, h, l => by
    have h : (if x = y then rlt xs ys else ltCps x.cps.toList y.cps.toList) = true := h
    show (if x = y then rlt (xs ++ a) (ys ++ b) else ltCps x.cps.toList y.cps.toList) = true
    by_cases e : x = y
    · rw [if_pos e] at h ⊢
      exact rlt_app a b h (Nat.succ.inj l)
    · rw [if_neg e] at h ⊢
      exact h
theorem rlt_pre : ∀ (x : List Str) {a b : Str}, ltCps a.cps.toList b.cps.toList = true → rlt (x ++ [a]) (x ++ [b]) = true
  | [], a, b, h => by
    show (if a = b then rlt [] [] else ltCps a.cps.toList b.cps.toList) = true
    by_cases e : a = b
    · rw [e, lt_irr] at h
      cases h
    · rw [if_neg e]
      exact h
  | x :: xs, a, b, h => by
    show (if x = x then rlt (xs ++ [a]) (xs ++ [b]) else _) = true
    rw [if_pos rfl]
    exact rlt_pre xs h
theorem rowsN_up {ms : List Str} (h : Asc ms) : ∀ n, Up (rowsN ms n)
  | 0 => List.pairwise_singleton _ _
  | n + 1 => by
    have ih := rowsN_up h n
    have hl : ∀ r ∈ rowsN ms n, r.length = n := fun r hr => ((rowsN_mem ms n r).mp hr).1
    show Up ((rowsN ms n).flatMap fun r => ms.map fun c => r ++ [c])
    generalize rowsN ms n = L at ih hl
    induction L with
    | nil => exact List.Pairwise.nil
    | cons r L ihL =>
      rw [List.flatMap_cons]
      obtain ⟨h1, h2⟩ := List.pairwise_cons.mp ih
      refine List.pairwise_append.mpr ⟨List.pairwise_map.mpr (List.Pairwise.imp (fun {a b} q => rlt_pre r q) h), ihL h2 fun u hu => hl u (List.mem_cons_of_mem _ hu), fun a ha b hb => ?_⟩
      obtain ⟨c, _, rfl⟩ := List.mem_map.mp ha
      obtain ⟨u, hu, hb⟩ := List.mem_flatMap.mp hb
      obtain ⟨e, _, rfl⟩ := List.mem_map.mp hb
      exact rlt_app _ _ (h1 u hu) (by rw [hl r (List.mem_cons_self ..), hl u (List.mem_cons_of_mem _ hu)])
theorem Up.filter {rs : List (List Str)} (h : Up rs) (p : List Str → Bool) : Up (rs.filter p) := List.Pairwise.filter p h
/-- the rows that pairs leave, as they ascend -/
def dueR (ms : List Str) (d : Nat) (rs : List (List Str)) : List (List Str) := (rowsN ms (d + 1)).filter (hasP d rs)
theorem dueR_mem {ms : List Str} {d : Nat} {rs : List (List Str)} {r : List Str} : r ∈ dueR ms d rs ↔ LeftBy ms d rs r := by
  unfold dueR LeftBy
  rw [List.mem_filter, rowsN_mem]
theorem dueR_up {ms : List Str} (h : Asc ms) {d : Nat} {rs : List (List Str)} : Up (dueR ms d rs) := (rowsN_up h _).filter _
theorem dueR_is {ms : List Str} (h : Asc ms) {d : Nat} {rs ws : List (List Str)} (u : Up ws) (m : ∀ r, r ∈ ws ↔ LeftBy ms d rs r) : ws = dueR ms d rs := up_same u (dueR_up h) fun r => (m r).trans dueR_mem.symm
theorem told_due {ms : List Str} (h : Asc ms) {d : Nat} {rs : List (List Str)} (u : Up rs) (len : ∀ r ∈ rs, r.length = d + 1) (o : Over ms rs) : Told ms d rs ↔ dueR ms d rs = rs := by
  constructor
  · intro t
    exact up_same (dueR_up h) u fun r => dueR_mem.trans ⟨t r, left_has len o⟩
  · intro e r hr
    rw [← e]
    exact dueR_mem.mpr hr
/-- what the pairs leave leaves nothing more -/
theorem due_again {ms : List Str} {d : Nat} {rs ws : List (List Str)} (mw : ∀ r, r ∈ ws ↔ LeftBy ms d rs r) {r : List Str} : LeftBy ms d ws r ↔ LeftBy ms d rs r := by
  constructor
  · rintro ⟨h1, h2⟩
    refine ⟨h1, hasP_iff.mpr fun i j ij jd => ?_⟩
    obtain ⟨u, hu, e1, e2⟩ := hasP_iff.mp h2 i j ij jd
    obtain ⟨v, hv, e3, e4⟩ := hasP_iff.mp ((mw u).mp hu).2 i j ij jd
    exact ⟨v, hv, e3.trans e1, e4.trans e2⟩
  · rintro ⟨h1, h2⟩
    exact ⟨h1, hasP_iff.mpr fun i j _ _ => ⟨r, (mw r).mpr ⟨h1, h2⟩, rfl, rfl⟩⟩
theorem row_ext {n : Nat} {u r : List Str} (h1 : u.length = n) (h2 : r.length = n) (h : ∀ i, i < n → at_ u i = at_ r i) : u = r := by
  refine List.ext_getElem? fun i => ?_
  by_cases c : i < n
  · rw [at_get (by omega), at_get (by omega), h i c]
  · rw [List.getElem?_eq_none (by omega), List.getElem?_eq_none (by omega)]
/-- tables of one and of two places are told -/
theorem told_two {ms : List Str} {d : Nat} {rs : List (List Str)} (len : ∀ r ∈ rs, r.length = d + 1) (d1 : d ≤ 1) : Told ms d rs := by
  rintro r ⟨⟨lr, _⟩, h⟩
  obtain ⟨u, hu, e1, e2⟩ := hasP_iff.mp h 0 d (Nat.zero_le _) (by omega)
  have : u = r := row_ext (len u hu) lr fun i hi => by
    by_cases c : i = 0
    · rw [c]
      exact e1
    · rw [show i = d by omega]
      exact e2
  rw [← this]
  exact hu
theorem gvn_at_ {g : Str → Str → Str → Str} {n : Nat} {a b c : List Str} (h1 : a.length = n) (h2 : b.length = n) (h3 : c.length = n) {i : Nat} (hi : i < n) : at_ (gvn g a b c) i = g (at_ a i) (at_ b i) (at_ c i) := by
  have h := gvn_at (g := g) (at_get (r := a) (i := i) (by omega)) (at_get (r := b) (i := i) (by omega)) (at_get (r := c) (i := i) (by omega))
  rw [at_get (by rw [gvn_len h1 h2 h3]; exact hi)] at h
  exact Option.some.inj h
theorem at_mem {r : List Str} {i : Nat} (h : i < r.length) : at_ r i ∈ r := List.mem_of_getElem? (at_get h)
/-- rows that a majority keeps are told by their pairs -/
theorem told_closed {ms : List Str} {g : Str → Str → Str → Str} {d : Nat} {F : List (List Str)} (W : WayG ms g) (R : RowsOk ms (d + 1) F) (cl : ClosedG g F) : Told ms d F := by
  rintro r ⟨⟨lr, or⟩, h⟩
  have hp := hasP_iff.mp h
  have two_ : ∀ i j, i < d + 1 → j < d + 1 → ∃ u ∈ F, at_ u i = at_ r i ∧ at_ u j = at_ r j := fun i j hi hj => by
    rcases Nat.le_total i j with q | q
    · exact hp i j q hj
    · obtain ⟨u, hu, e1, e2⟩ := hp j i q hi
      exact ⟨u, hu, e2, e1⟩
  have all_ : ∀ (n : Nat) (S : List Nat), S.length ≤ n → (∀ i ∈ S, i < d + 1) → ∃ u ∈ F, ∀ i ∈ S, at_ u i = at_ r i := by
    intro n
    induction n with
    | zero =>
      intro S hS _
      obtain ⟨u, hu, _⟩ := hp 0 0 (Nat.le_refl _) (by omega)
      obtain rfl : S = [] := List.eq_nil_of_length_eq_zero (by omega)
      exact ⟨u, hu, fun i hi => nomatch hi⟩
    | succ n ih =>
      intro S hS hb
      match S, hS, hb with
      | [], _, _ =>
        obtain ⟨u, hu, _⟩ := hp 0 0 (Nat.le_refl _) (by omega)
        exact ⟨u, hu, fun i hi => nomatch hi⟩
      | [i], _, hb =>
        obtain ⟨u, hu, e, _⟩ := two_ i i (hb i (by simp)) (hb i (by simp))
        exact ⟨u, hu, fun x hx => by rw [List.mem_singleton.mp hx]; exact e⟩
      | [i, j], _, hb =>
        obtain ⟨u, hu, e1, e2⟩ := two_ i j (hb i (by simp)) (hb j (by simp))
        refine ⟨u, hu, fun x hx => ?_⟩
        rcases List.mem_cons.mp hx with rfl | hx
        · exact e1
        · rw [List.mem_singleton.mp hx]
          exact e2
      | i :: j :: k :: S, hS, hb =>
        simp only [List.length_cons] at hS
        obtain ⟨u1, m1, a1⟩ := ih (j :: k :: S) (by simp only [List.length_cons]; omega) fun x hx => hb x (List.mem_cons_of_mem _ hx)
        obtain ⟨u2, m2, a2⟩ := ih (i :: k :: S) (by simp only [List.length_cons]; omega) fun x hx => hb x (by
          rcases List.mem_cons.mp hx with rfl | hx
          · simp
          · exact List.mem_cons_of_mem _ (List.mem_cons_of_mem _ hx))
        obtain ⟨u3, m3, a3⟩ := ih (i :: j :: S) (by simp only [List.length_cons]; omega) fun x hx => hb x (by
          rcases List.mem_cons.mp hx with rfl | hx
          · simp
          · rcases List.mem_cons.mp hx with rfl | hx
            · simp
            · exact List.mem_cons_of_mem _ (List.mem_cons_of_mem _ (List.mem_cons_of_mem _ hx)))
        obtain ⟨l1, o1⟩ := R u1 m1
        obtain ⟨l2, o2⟩ := R u2 m2
        obtain ⟨l3, o3⟩ := R u3 m3
        refine ⟨gvn g u1 u2 u3, cl u1 m1 u2 m2 u3 m3, fun x hx => ?_⟩
        have xd := hb x hx
        rw [gvn_at_ l1 l2 l3 xd]
        have r0 : at_ r x ∈ ms := or _ (at_mem (by omega))
        have b1 : at_ u1 x ∈ ms := o1 _ (at_mem (by omega))
        have b2 : at_ u2 x ∈ ms := o2 _ (at_mem (by omega))
        have b3 : at_ u3 x ∈ ms := o3 _ (at_mem (by omega))
        by_cases c1 : x ∈ (j :: k :: S)
        · by_cases c2 : x ∈ (i :: k :: S)
          · rw [a1 x c1, a2 x c2]
            exact W.xxy _ r0 _ b3
          · have c3 : x ∈ (i :: j :: S) := by
              simp only [List.mem_cons, not_or] at c1 c2 ⊢
              rcases c1 with c1 | c1 | c1
              · exact .inr (.inl c1)
              · exact absurd c1 c2.2.1
              · exact absurd c1 c2.2.2
            rw [a1 x c1, a3 x c3]
            exact W.xyx _ r0 _ b2
        · have xi : x = i := by
            simp only [List.mem_cons, not_or] at c1 hx
            rcases hx with h | h | h | h
            · exact h
            · exact absurd h c1.1
            · exact absurd h c1.2.1
            · exact absurd h c1.2.2
          rw [a2 x (by rw [xi]; simp), a3 x (by rw [xi]; simp)]
          exact W.yxx _ r0 _ b1
  obtain ⟨u, hu, e⟩ := all_ (d + 1) (List.range (d + 1)) (by rw [List.length_range]; exact Nat.le_refl _) fun i hi => List.mem_range.mp hi
  rw [← row_ext (R u hu).1 lr fun i hi => e i (List.mem_range.mpr hi)]
  exact hu
/-- a drawn majority -/
theorem way_of {ms : List Str} (hn : ms.Nodup) {H : Hp} {L : Addr} {m : List (List Key × V)} (hL : H L = some (.dT m)) (hk : m.map (·.1) = growN ms 3) (hv : ∀ e ∈ m, MajV ms e.1 e.2) : ∃ g, WayG ms g ∧ WayAt H L ms g := by
  have key : ∀ x ∈ ms, ∀ y ∈ ms, ∀ z ∈ ms, ∃ s ∈ ms, valV m [Sum.inr x, Sum.inr y, Sum.inr z] = some (.str s) ∧ (twiceV x y z ≠ .non → V.str s = twiceV x y z) := fun x hx y hy z hz => by
    have hm : ([Sum.inr x, Sum.inr y, Sum.inr z] : List Key) ∈ growN ms 3 := by
      rw [growN_rows]
      exact List.mem_map.mpr ⟨[x, y, z], (rowsN_mem ms 3 _).mpr ⟨rfl, fun u hu => by
        simp only [List.mem_cons, List.not_mem_nil, or_false] at hu
        rcases hu with rfl | rfl | rfl
        · exact hx
        · exact hy
        · exact hz⟩, rfl⟩
    rw [← hk] at hm
    obtain ⟨⟨k2, v⟩, hmem, e⟩ := List.mem_map.mp hm
    obtain rfl : k2 = [Sum.inr x, Sum.inr y, Sum.inr z] := e
    obtain ⟨h1, s, hs, ev⟩ := hv _ hmem
    have ev : v = V.str s := ev
    subst ev
    obtain ⟨j, ej⟩ := List.mem_iff_getElem?.mp hmem
    exact ⟨s, hs, valV_at (by rw [hk]; exact growN_nodup hn 3) ej, fun q => h1 q⟩
  obtain ⟨g, hg⟩ : ∃ g : Str → Str → Str → Str, ∀ x ∈ ms, ∀ y ∈ ms, ∀ z ∈ ms, g x y z ∈ ms ∧ valV m [Sum.inr x, Sum.inr y, Sum.inr z] = some (.str (g x y z)) ∧ (twiceV x y z ≠ .non → V.str (g x y z) = twiceV x y z) := by
    refine ⟨fun x y z => match valV m [Sum.inr x, Sum.inr y, Sum.inr z] with
      | some (.str s) => s
      | _ => x, fun x hx y hy z hz => ?_⟩
    obtain ⟨s, hs, e, h⟩ := key x hx y hy z hz
    show (match valV m [Sum.inr x, Sum.inr y, Sum.inr z] with
      | some (.str s) => s
      | _ => x) ∈ ms ∧ _
    simp only [e]
    exact ⟨hs, trivial, h⟩
  refine ⟨g, ⟨fun x hx y hy z hz => (hg x hx y hy z hz).1, fun x hx y hy => ?_, fun x hx y hy => ?_, fun x hx y hy => ?_⟩, m, hL, fun x hx y hy z hz => (hg x hx y hy z hz).2.1⟩
  · have e : twiceV x x y = .str x := by simp [twiceV]
    have := (hg x hx x hx y hy).2.2 (by rw [e]; exact fun z => nomatch z)
    rw [e] at this
    exact V.str.inj this
  · have e : twiceV x y x = .str x := by simp [twiceV]
    have := (hg x hx y hy x hx).2.2 (by rw [e]; exact fun z => nomatch z)
    rw [e] at this
    exact V.str.inj this
  · have e : twiceV y x x = .str x := by
      by_cases c : y = x
      · simp [twiceV, c]
      · simp [twiceV, c]
    have := (hg y hy x hx x hx).2.2 (by rw [e]; exact fun z => nomatch z)
    rw [e] at this
    exact V.str.inj this
end Yt

set_option Elab.async false
set_option linter.all false
set_option maxRecDepth 100000
set_option maxHeartbeats 2000000
namespace Yt
open PySem PySem.Spec PyProof.Rows L2
theorem two_gvn {g : Str → Str → Str → Str} {n i j : Nat} {x y z : List Str} (h1 : x.length = n) (h2 : y.length = n) (h3 : z.length = n) (hi : i < n) (hj : j < n) : two i j (gvn g x y z) = gvn g (two i j x) (two i j y) (two i j z) := by
  unfold two
  rw [gvn_at_ h1 h2 h3 hi, gvn_at_ h1 h2 h3 hj]
  rfl
/-- a majority keeps rows exactly if it keeps their pairs and the pairs tell the rows -/
theorem kept_iff {ms : List Str} {g : Str → Str → Str → Str} {d : Nat} {rs : List (List Str)} (W : WayG ms g) (hm : Asc ms) (R : RowsOk ms (d + 1) rs) (u : Up rs) :
    ClosedG g rs ↔ (∀ p ∈ twosN (d + 1), ClosedG g (rs.map (two p.1 p.2))) ∧ (rowsN ms (d + 1)).filter (hasP d rs) = rs := by
  have len : ∀ r ∈ rs, r.length = d + 1 := fun r hr => (R r hr).1
  have td := told_due hm u len (fun r hr => (R r hr).2)
  constructor
  · intro cl
    refine ⟨fun p hp => ?_, td.mp (told_closed W R cl)⟩
    obtain ⟨h1, h2⟩ := twosN_mem.mp hp
    intro x hx y hy z hz
    obtain ⟨a, ha, rfl⟩ := List.mem_map.mp hx
    obtain ⟨b, hb, rfl⟩ := List.mem_map.mp hy
    obtain ⟨c, hc, rfl⟩ := List.mem_map.mp hz
    rw [← two_gvn (len a ha) (len b hb) (len c hc) (by omega) h2]
    exact List.mem_map.mpr ⟨_, cl a ha b hb c hc, rfl⟩
  · rintro ⟨pr, due⟩ x hx y hy z hz
    refine (td.mpr due) _ ⟨⟨gvn_len (len x hx) (len y hy) (len z hz), gvn_over W.mem (R x hx).2 (R y hy).2 (R z hz).2⟩, ?_⟩
    unfold hasP
    rw [List.all_eq_true]
    intro p hp
    obtain ⟨h1, h2⟩ := twosN_mem.mp hp
    refine decide_eq_true ?_
    rw [two_gvn (len x hx) (len y hy) (len z hz) (by omega) h2]
    exact pr p hp _ (List.mem_map.mpr ⟨x, hx, rfl⟩) _ (List.mem_map.mpr ⟨y, hy, rfl⟩) _ (List.mem_map.mpr ⟨z, hz, rfl⟩)
/-- what picks one of three keeps any rows -/
theorem pick_keeps {g : Str → Str → Str → Str} {n : Nat} {rs : List (List Str)} (len : ∀ r ∈ rs, r.length = n) (h : (∀ x y z, g x y z = x) ∨ (∀ x y z, g x y z = y) ∨ ∀ x y z, g x y z = z) : ClosedG g rs := by
  intro x hx y hy z hz
  have e : gvn g x y z = x ∨ gvn g x y z = y ∨ gvn g x y z = z := by
    have l := gvn_len (g := g) (len x hx) (len y hy) (len z hz)
    rcases h with h | h | h
    · exact .inl (row_ext l (len x hx) fun i hi => by rw [gvn_at_ (len x hx) (len y hy) (len z hz) hi, h])
    · exact .inr (.inl (row_ext l (len y hy) fun i hi => by rw [gvn_at_ (len x hx) (len y hy) (len z hz) hi, h]))
    · exact .inr (.inr (row_ext l (len z hz) fun i hi => by rw [gvn_at_ (len x hx) (len y hy) (len z hz) hi, h]))
  rcases e with e | e | e <;> rw [e] <;> assumption
/-- the least closed rows are one -/
theorem least_one {g : Str → Str → Str → Str} {rs us vs : List (List Str)} (u : Up us) (v : Up vs) (bu : ∀ r ∈ rs, r ∈ us) (bv : ∀ r ∈ rs, r ∈ vs) (cu : ClosedG g us) (cv : ClosedG g vs)
    (lu : ∀ W : List (List Str), ClosedG g W → (∀ r ∈ rs, r ∈ W) → ∀ r ∈ us, r ∈ W) (lv : ∀ W : List (List Str), ClosedG g W → (∀ r ∈ rs, r ∈ W) → ∀ r ∈ vs, r ∈ W) : us = vs :=
  up_same u v fun r => ⟨lu vs cv bv r, lv us cu bu r⟩
end Yt

set_option Elab.async false
set_option linter.all false
set_option maxRecDepth 100000
set_option maxHeartbeats 2000000
namespace Yt
open PySem PySem.Spec PyProof.Rows L2
abbrev sKeeps : Stmt := top 30
section
variable {P : Program} {w : World} {K : PySem.W.Frag} {mg : Str → Option Value} {base : Heap} {f : Addr} {fd : FuncData} {C : Addr}
theorem scKeeps : FnScope ["table", "way"] ["table", "way"] (defScope sKeeps) := ⟨rfl, rfl, rfl, by decide +kernel, rfl, by decide +kernel, by decide +kernel⟩
def spKeeps (C : Addr) : Sp := fun vs H Q _ => ∃ (p dw : Addr) (ms : List Str) (d : Nat) (rs : List (List Str)) (g : Str → Str → Str → Str) (b : Bool), vs = [.ref p, .ref dw] ∧ TableAt C H p ms d rs ∧ MarksOk ms ∧ d ≤ 3 ∧ rs.length < 300 ∧ RowsOk ms (d + 1) rs ∧ WayOk H dw ms g ∧ (b = true ↔ ClosedG g rs) ∧ ∀ H', Same H H' → Q (.bl b) H'
theorem ok_keeps {fW : Addr} {dW : FuncData} (F : FnP K "keeps" sKeeps f fd)
    (GW : FnOk P w K mg base CX0 4 fW dW ["table", "way"] (spWhy C)) (bW : Binds K dW ["table", "way"] []) (kW : PySem.W.keepIn K (.ref fW) = true) (gW : mg "why_broken" = some (.ref fW)) :
    FnOk P w K mg base CX0 5 f fd ["table", "way"] (spKeeps C) := by
  refine F.ok scKeeps (fun vs H Q E h => ?_) (fun cdv A outer s H vs Q E hr h => ?_)
  · obtain ⟨p, dw, ms, d, rs, g, b, rfl, _⟩ := h
    rfl
  · obtain ⟨p, dw, ms, d, rs, g, b, rfl, T1, ok, d3, few, rok, hw, hb, k⟩ := h
    refine ⟨_, PSs.nox (pss_one (ps_ret (pe_cmpR op_isN (pe_call GW hr rfl gW kW bW .nil pass0 (pa_cons (pv 0) (pa_cons (pv 1) pa_nil))) pe_non (nomark _)))), ?_⟩
    refine ⟨_, rfl, _, rfl, p, dw, ms, d, rs, g, rfl, T1, ok, d3, few, rok, hw, fun cl H' s => ?_, fun x hx y hy z hz no T a b' c H' nT hT ha hb' hc s => ?_⟩
    · obtain rfl : b = true := hb.mpr cl
      exact ⟨rfl, k H' s⟩
    · obtain rfl : b = false := by
        cases b with
        | false => rfl
        | true => exact absurd (hb.mp rfl x hx y hy z hz) no
      exact ⟨rfl, k H' s⟩
end
end Yt

set_option Elab.async false
set_option linter.all false
set_option maxRecDepth 100000
set_option maxHeartbeats 2000000
namespace Yt
open PySem PySem.Spec PyProof.Rows L2
abbrev sLast : Stmt := top 35
/-- what a way gives of a row and two others, the row at each of the three places -/
def lastG (g : Str → Str → Str → Str) (x y z : List Str) : List (List Str) := [gvn g x y z, gvn g y x z, gvn g y z x]
def lastAll (g : Str → Str → Str → Str) (x : List Str) (F : List (List Str)) : List (List Str) := F.flatMap fun y => F.flatMap (lastG g x y)
theorem flat_3 {α : Type} (F : List α) (h : α → List (List Str)) (n : Nat) (e : ∀ a, (h a).length = n) : (F.flatMap h).length = F.length * n := by
  induction F with
  | nil => simp
  | cons a F ih => rw [List.flatMap_cons, List.length_append, ih, e, List.length_cons, Nat.succ_mul, Nat.add_comm]
section
variable {P : Program} {w : World} {K : PySem.W.Frag} {mg : Str → Option Value} {base : Heap} {f : Addr} {fd : FuncData}
theorem scLast : FnScope ["way", "rows", "last", "gifts", "one", "other"] ["way", "rows"] (defScope sLast) := ⟨rfl, rfl, rfl, by decide +kernel, rfl, by decide +kernel, by decide +kernel⟩
def spLast : Sp := fun vs H Q _ => ∃ (dw l : Addr) (ms : List Str) (g : Str → Str → Str → Str) (n : Nat) (M : List (Addr × List Str)) (x : Addr × List Str), vs = [.ref dw, .ref l] ∧ WayAt H dw ms g ∧ RowsAt H l (M ++ [x]) ∧ RowsOk ms n ((M ++ [x]).map (·.2)) ∧ n ≤ 4 ∧ M.length ≤ 100 ∧
  ∀ (L : Addr) (H' : Hp), H L = none → Built L H (lastAll g x.2 ((M ++ [x]).map (·.2))) H' → Q (.ref L) H'
theorem ok_last {fG : Addr} {dG : FuncData} (F : FnP K "_gifts_with_last" sLast f fd)
    (GG : FnOk P w K mg base CX0 1 fG dG ["way", "first", "second", "third"] spGift8) (bG : Binds K dG ["way", "first", "second", "third"] []) (kG : PySem.W.keepIn K (.ref fG) = true) (gG : mg "_gift" = some (.ref fG)) :
    FnOk P w K mg base CX0 2 f fd ["way", "rows"] spLast := by
  refine F.ok scLast (fun vs H Q E h => ?_) (fun cdv A outer s H vs Q E hr h => ?_)
  · obtain ⟨dw, l, ms, g, n, M, x, rfl, _⟩ := h
    rfl
  · obtain ⟨dw, l, ms, g, n, M, x, rfl, hw, hl, ok, n4, few, k⟩ := h
    refine ⟨_, PSs.nox (pss_cons (ps_set (i := 2) scLast.nd rfl (Or.inl rfl) (pe_ix ix_list (pv 1) (pe_un un_neg pe_int) (fun _ _ => rfl)))
      (pss_cons (ps_set (i := 3) scLast.nd rfl (Or.inl rfl) (pe_lst pa_nil))
      (pss_cons (ps_for PassesOwn.never rfl (pi_list (pv 1)) (pg_name (i := 4) scLast.nd rfl (Or.inl rfl))
      (pss_one (ps_for PassesOwn.never rfl (pi_list (pv 1)) (pg_name (i := 5) scLast.nd rfl (Or.inl rfl))
        (pss_cons (ps_expr (pe_bm PySem.F.plainAttrs_list PySem.F.slot_list_append PySem.F.type_list_append mt_append (pv 3) (pa_cons (pe_call GG (hr.mono (by decide)) rfl gG kG bG .nil pass0 (pa_cons (pv 0) (pa_cons (pv 2) (pa_cons (pv 4) (pa_cons (pv 5) pa_nil))))) pa_nil)))
        (pss_cons (ps_expr (pe_bm PySem.F.plainAttrs_list PySem.F.slot_list_append PySem.F.type_list_append mt_append (pv 3) (pa_cons (pe_call GG (hr.mono (by decide)) rfl gG kG bG .nil pass0 (pa_cons (pv 0) (pa_cons (pv 4) (pa_cons (pv 2) (pa_cons (pv 5) pa_nil))))) pa_nil)))
        (pss_one (ps_expr (pe_bm PySem.F.plainAttrs_list PySem.F.slot_list_append PySem.F.type_list_append mt_append (pv 3) (pa_cons (pe_call GG (hr.mono (by decide)) rfl gG kG bG .nil pass0 (pa_cons (pv 0) (pa_cons (pv 4) (pa_cons (pv 5) (pa_cons (pv 2) pa_nil))))) pa_nil)))))))))
      (pss_one (ps_ret (pv 3)))))), ?_⟩
    obtain ⟨R, eR⟩ : ∃ R, R = M ++ [x] := ⟨_, rfl⟩
    have lR : R.length ≤ 101 := by rw [eR, List.length_append, List.length_singleton]; omega
    have xm : x ∈ R := by rw [eR]; exact List.mem_append_right _ (List.mem_singleton.mpr rfl)
    have eix : (R.map fun e => V.ref e.1) = (M.map fun e => V.ref e.1) ++ [V.ref x.1] := by rw [eR, List.map_append] <;> rfl
    rw [← eR] at hl ok k
    have lV : (R.map fun e => V.ref e.1).length = R.length := List.length_map _
    have at_ : ∀ {i : Nat} {v : V}, (R.map fun e => V.ref e.1)[i]? = some v → ∃ u, (R.map (·.2))[i]? = some u.2 ∧ u ∈ R ∧ v = .ref u.1 := fun {i v} e => by
      rw [List.getElem?_map] at e
      obtain ⟨u, hu, rfl⟩ := Option.map_eq_some_iff.mp e
      exact ⟨u, by rw [List.getElem?_map, hu] <;> rfl, List.mem_of_getElem? hu, rfl⟩
    have len : ∀ {u : Addr × List Str}, u ∈ R → u.2.length = n ∧ ∀ z ∈ u.2, z ∈ ms := fun hu => ok _ (List.mem_map.mpr ⟨_, hu, rfl⟩)
    obtain ⟨Fr, eF⟩ : ∃ Fr, Fr = R.map (·.2) := ⟨_, rfl⟩
    have lF : Fr.length = R.length := by rw [eF, List.length_map]
    rw [← eF] at k
    refine ⟨_, rfl, _, rfl, l, _, _, V.ref x.1, rfl, rfl, SqL.of (by rw [hl.1, eix]), atI_last _ _, (by show 0 ≤ sizeLine; decide), fun G nG => ?_⟩
    have B0 := Built.first nG
    generalize upd H G (.lst []) = H0 at B0 ⊢
    have keep : ∀ {rs : List (List Str)} {Hx : Hp}, Built G H rs Hx → Same H Hx := fun ⟨_, _, _, _, z⟩ => z
    refine ⟨_, rfl, l, rfl, ⟨_, SqL.of (keep B0 _ _ hl.1)⟩, for_list (K := K) (a := l) (xs := R.map fun e => V.ref e.1) (fun i σ Hb => ∃ u4 u5, σ = [some (.ref dw), some (.ref l), some (.ref x.1), some (.ref G), u4, u5] ∧ Built G H ((Fr.take i).flatMap fun y => Fr.flatMap (lastG g x.2 y)) Hb)
      ⟨_, _, rfl, B0⟩ (fun i σ Hb _ ⟨_, _, _, B⟩ => SqL.of (keep B _ _ hl.1)) ?_ ?_⟩
    · rintro i v σ Hb hi ⟨u4, u5, rfl, Bb⟩
      obtain ⟨y, ey, ym, rfl⟩ := at_ hi
      rw [← eF] at ey
      have ti : (Fr.take i).length ≤ 101 := by rw [List.length_take]; omega
      have li := flat_3 (Fr.take i) (fun y => Fr.flatMap (lastG g x.2 y)) (Fr.length * 3) (fun a => flat_3 _ _ 3 fun _ => rfl)
      have li2 : (Fr.take i).length * (Fr.length * 3) ≤ 101 * 303 := Nat.mul_le_mul ti (by omega)
      refine ⟨_, rfl, l, rfl, ⟨_, SqL.of (keep Bb _ _ hl.1)⟩, for_list (K := K) (a := l) (xs := R.map fun e => V.ref e.1) (fun j σ Hc => ∃ u5, σ = [some (.ref dw), some (.ref l), some (.ref x.1), some (.ref G), some (.ref y.1), u5] ∧ Built G H (((Fr.take i).flatMap fun y => Fr.flatMap (lastG g x.2 y)) ++ (Fr.take j).flatMap (lastG g x.2 y.2)) Hc)
        ⟨_, rfl, by rw [List.take_zero, List.flatMap_nil, List.append_nil]; exact Bb⟩ (fun j σ Hc _ ⟨_, _, B⟩ => SqL.of (keep B _ _ hl.1)) ?_ ?_⟩
      · rintro j v σ Hc hj ⟨u5, rfl, Bc⟩
        obtain ⟨z, ez, zm, rfl⟩ := at_ hj
        rw [← eF] at ez
        have tj : (Fr.take j).length ≤ 101 := by rw [List.length_take]; omega
        have lj := flat_3 (Fr.take j) (lastG g x.2 y.2) 3 (fun _ => rfl)
        generalize hrs : ((Fr.take i).flatMap fun y => Fr.flatMap (lastG g x.2 y)) ++ (Fr.take j).flatMap (lastG g x.2 y.2) = rs at Bc
        have lrs : rs.length ≤ 31000 := by rw [← hrs, List.length_append, li, lj]; omega
        have hG : ∀ {rs : List (List Str)} {Hx : Hp}, Built G H rs Hx → ∃ xs, Hx G = some (.lst xs) := fun ⟨_, z, _⟩ => ⟨_, z⟩
        have big : ∀ {m : Nat}, m ≤ 40000 → m < sizeLine := fun h => by rw [sizeLine_eq]; omega
        have sc := keep Bc
        obtain ⟨_, g1⟩ := hG Bc
        refine ⟨_, rfl, .inl ⟨rfl, _, SqL.of g1⟩, _, rfl, _, rfl, _, rfl, _, rfl, dw, x.1, y.1, z.1, ms, g, n, x.2, y.2, z.2, rfl, hw.to sc, sc _ _ (hl.2 x xm), sc _ _ (hl.2 y ym), sc _ _ (hl.2 z zm), (len xm).1, (len ym).1, (len zm).1, n4, (len xm).2, (len ym).2, (len zm).2, fun T1 H1 nT1 hT1 s1 => ?_⟩
        obtain ⟨acc, ha, la, B1⟩ := Bc.more nG s1 hT1
        refine ⟨G, acc, _, rfl, rfl, ha, big (by omega), ?_⟩
        generalize upd H1 G _ = H1' at B1 ⊢
        have sc := keep B1
        obtain ⟨_, g1⟩ := hG B1
        refine ⟨_, rfl, .inl ⟨rfl, _, SqL.of g1⟩, _, rfl, _, rfl, _, rfl, _, rfl, dw, y.1, x.1, z.1, ms, g, n, y.2, x.2, z.2, rfl, hw.to sc, sc _ _ (hl.2 y ym), sc _ _ (hl.2 x xm), sc _ _ (hl.2 z zm), (len ym).1, (len xm).1, (len zm).1, n4, (len ym).2, (len xm).2, (len zm).2, fun T2 H2 nT2 hT2 s2 => ?_⟩
        obtain ⟨acc2, ha2, la2, B2⟩ := B1.more nG s2 hT2
        rw [List.length_append, List.length_singleton] at la2
        refine ⟨G, acc2, _, rfl, rfl, ha2, big (by omega), ?_⟩
        generalize upd H2 G _ = H2' at B2 ⊢
        have sc := keep B2
        obtain ⟨_, g1⟩ := hG B2
        refine ⟨_, rfl, .inl ⟨rfl, _, SqL.of g1⟩, _, rfl, _, rfl, _, rfl, _, rfl, dw, y.1, z.1, x.1, ms, g, n, y.2, z.2, x.2, rfl, hw.to sc, sc _ _ (hl.2 y ym), sc _ _ (hl.2 z zm), sc _ _ (hl.2 x xm), (len ym).1, (len zm).1, (len xm).1, n4, (len ym).2, (len zm).2, (len xm).2, fun T3 H3 nT3 hT3 s3 => ?_⟩
        obtain ⟨acc3, ha3, la3, B3⟩ := B2.more nG s3 hT3
        rw [List.length_append, List.length_append, List.length_singleton, List.length_singleton] at la3
        refine ⟨G, acc3, _, rfl, rfl, ha3, big (by omega), _, rfl, ?_⟩
        have : ((Fr.take i).flatMap fun y => Fr.flatMap (lastG g x.2 y)) ++ (Fr.take (j + 1)).flatMap (lastG g x.2 y.2) = rs ++ [gvn g x.2 y.2 z.2] ++ [gvn g y.2 x.2 z.2] ++ [gvn g y.2 z.2 x.2] := by
          rw [take_flat _ _ ez, ← hrs]
          simp only [lastG, List.append_assoc, List.cons_append, List.nil_append]
        rw [this]
        exact B3
      · rintro σ Hc ⟨u5, rfl, Bc⟩
        rw [lV, ← lF, List.take_length] at Bc
        refine ⟨_, _, rfl, ?_⟩
        rw [take_flat _ _ ey]
        exact Bc
    · rintro σ Hb ⟨u4, u5, rfl, Bb⟩
      rw [lV, ← lF, List.take_length] at Bb
      exact ⟨_, rfl, k G Hb nG Bb⟩
end
end Yt

set_option Elab.async false
set_option linter.all false
set_option maxRecDepth 100000
set_option maxHeartbeats 2000000
namespace Yt
open PySem PySem.Spec PyProof.Rows L2
/-! ### found.add(row): one more row in a set of rows -/
def tSAddT (P : Program) (w : World) (to : TE) (t : TA) : TE := fun σ H Q => to σ H fun x H1 => (∃ a L, x = V.ref a ∧ H1 a = some (SetTO' P w a L) ∧ Stand H1 L) ∧ t σ H1 fun xs H2 => ∃ (a : Addr) (y : V), x = V.ref a ∧ xs = [y] ∧ addT P w a y H2 fun H' => Q .non H'
section
variable {X : Cx} {o e : Expr} {to : TE} {t : TA} {apos cpos : Pos}
theorem pe_saddT (hu : X.A.units + 3 < cLine) (ho : PE X o to) (ha : PA X [e] t)
    (hbase : attributeBase o "add" X.env (eval o X.env) = eval o X.env := by rfl)
    (hfew : ((backTo cpos (starEach [e] X.env)).all (fun x => !x.1) && (backToKw cpos (keywordEach [] X.env)).all (fun x => x.1.isSome)
      && decide (([e] : List Expr).length + ([] : List Keyword).length + (if ([] : List Keyword).isEmpty then 0 else 1) < 30)) = true := by rfl)
    (hline : (apos.endLine == cpos.line) = true := by rfl) (hs : starEach [e] X.env = (false, eval e X.env) :: starEach [] X.env := by rfl) (hplain : (backTo cpos (starEach [] X.env)).any (·.1) = false := by rfl) :
    PE X (.Call (.Attribute o "add" apos) [e] [] cpos) (tSAddT X.prog X.w to t) := by
  refine ⟨fun pins s σ H Q I h => ?_⟩
  refine wpAny_Call_method_late hbase hfew hline rfl (thn (ho.run pins s σ H _ I h) fun v s1 ⟨x, H1, I1, r1, ty, q1⟩ => ?_)
  obtain ⟨a, L, rfl, hka, st⟩ := ty
  have R0 : SetTAt X.prog X.w s1.heap a L := (I1.hok a _ hka).1
  obtain ⟨es, ep, tt, R⟩ := setT_with R0 (stand_tups I1.hok st)
  obtain ⟨ob, hob, hx, hd⟩ := R.there
  cases r1
  refine ⟨"set", "set.add", F.plainAttrs_set, F.slot_set_add, F.type_set_add, ⟨ob, hob, hx.1⟩, (fun b e => by injection e with e; subst e; exact ⟨ob, hob, hx.2.1⟩), ?_⟩
  have hA := ha.run cpos pins s1 σ H1 _ I1 q1
  rw [hs] at hA ⊢
  refine Calls.callWith_builtin (by show (false || (backTo cpos (starEach [] X.env)).any (·.1)) = false; rw [hplain] <;> rfl) (Calls.evalArgs_plain ?_)
  refine thn hA fun us s2 ⟨vs, H2, I2, r2, a', y, ea, ev, q2⟩ => ?_
  obtain rfl : a = a' := V.ref.inj ea
  subst ev
  cases r2 with
  | cons ry rt =>
    cases rt
    exact addT_ok X rfl rfl (by omega) I2 ry q2 fun t G I' q => ⟨.non, G, I', rfl, q⟩
end
end Yt

set_option Elab.async false
set_option linter.all false
set_option maxRecDepth 100000
set_option maxHeartbeats 2000000
namespace Yt
open PySem PySem.Spec PyProof.Rows L2
/-! ### rows that wait and rows that are done -/
structure CB (P : Program) (w : World) (H0 : Hp) (ms : List Str) (g : Str → Str → Str → Str) (n : Nat) (rs : List (List Str)) (Lw Ld S : Addr) (Wt Dn : List (Addr × List Str)) (N : List (Addr × List Key)) (Hc : Hp) : Prop where
  same : Same H0 Hc
  ne : Lw ≠ Ld
  hW : Hc Lw = some (.lst (Wt.map fun e => V.ref e.1))
  hD : Hc Ld = some (.lst (Dn.map fun e => V.ref e.1))
  hS : Hc S = some (SetTO' P w S N)
  st : Stand Hc N
  at_ : ∀ e ∈ Wt ++ Dn, Hc e.1 = some (.tup (e.2.map V.str))
  nd : ((Wt ++ Dn).map (·.2)).Nodup
  mem : ∀ r : List Str, kR r ∈ List.map Prod.snd N ↔ r ∈ (Wt ++ Dn).map (·.2)
  len : N.length = (Wt ++ Dn).length
  ok : RowsOk ms n ((Wt ++ Dn).map (·.2))
  base : ∀ r ∈ rs, r ∈ (Wt ++ Dn).map (·.2)
  least : ∀ W : List (List Str), ClosedG g W → (∀ r ∈ rs, r ∈ W) → ∀ r ∈ (Wt ++ Dn).map (·.2), r ∈ W
section
variable {P : Program} {w : World} {H0 Hc H' : Hp} {ms : List Str} {g : Str → Str → Str → Str} {n : Nat} {rs : List (List Str)} {Lw Ld S : Addr} {Wt Dn : List (Addr × List Str)} {N N' : List (Addr × List Key)}
theorem CB.keep (c : CB P w H0 ms g n rs Lw Ld S Wt Dn N Hc) (s : Same Hc H') : CB P w H0 ms g n rs Lw Ld S Wt Dn N H' :=
  ⟨fun b o e => s _ _ (c.same _ _ e), c.ne, s _ _ c.hW, s _ _ c.hD, s _ _ c.hS, fun e he => s _ _ (c.st e he), fun e he => s _ _ (c.at_ e he), c.nd, c.mem, c.len, c.ok, c.base, c.least⟩
theorem lst_tup {a b : Addr} {xs ys : List V} (h : Hc a = some (.lst xs)) (h' : Hc b = some (.tup ys)) : b ≠ a := fun z => by
  rw [z, h] at h'
  cases h'
theorem lst_set {a b : Addr} {xs : List V} {N : List (Addr × List Key)} (h : Hc a = some (.lst xs)) (h' : Hc b = some (SetTO' P w b N)) : b ≠ a := fun z => by
  rw [z, h] at h'
  exact nomatch Option.some.inj h'
theorem setT_ne {a b : Addr} {xs : List V} {N : List (Addr × List Key)} (h : Hc a = some (SetTO' P w a N)) (h' : Hc b = some (.tup xs)) : b ≠ a := fun z => by
  rw [z, h] at h'
  exact nomatch Option.some.inj h'
theorem CB.pop {e : Addr × List Str} (c : CB P w H0 ms g n rs Lw Ld S (Wt ++ [e]) Dn N Hc) (nW : H0 Lw = none) (nD : H0 Ld = none) :
    CB P w H0 ms g n rs Lw Ld S Wt (Dn ++ [e]) N (upd (upd Hc Lw (.lst (Wt.map fun e => V.ref e.1))) Ld (.lst ((Dn ++ [e]).map fun e => V.ref e.1))) := by
  have pm : (Wt ++ (Dn ++ [e])).Perm ((Wt ++ [e]) ++ Dn) := by
    rw [List.append_assoc]
    exact List.Perm.append_left Wt List.perm_append_comm
  have pm2 := pm.map (·.2)
  have up : ∀ {b : Addr} {o : HO}, b ≠ Lw → b ≠ Ld → Hc b = some o → (upd (upd Hc Lw (.lst (Wt.map fun e => V.ref e.1))) Ld (.lst ((Dn ++ [e]).map fun e => V.ref e.1))) b = some o := fun h1 h2 e => (upd_ne h2).trans ((upd_ne h1).trans e)
  exact ⟨fun b o z => up (ne_of_none z nW) (ne_of_none z nD) (c.same _ _ z), c.ne, (upd_ne c.ne).trans upd_same, upd_same, up (lst_set c.hW c.hS) (lst_set c.hD c.hS) c.hS,
    fun u hu => up (lst_tup c.hW (c.st u hu)) (lst_tup c.hD (c.st u hu)) (c.st u hu), fun u hu => by
      have h := c.at_ u (pm.mem_iff.mp hu)
      exact up (lst_tup c.hW h) (lst_tup c.hD h) h, pm2.nodup_iff.mpr c.nd, fun r => (c.mem r).trans pm2.mem_iff.symm, c.len.trans pm.length_eq.symm, fun r hr => c.ok r (pm2.mem_iff.mp hr), fun r hr => pm2.mem_iff.mpr (c.base r hr), fun W h1 h2 r hr => c.least W h1 h2 r (pm2.mem_iff.mp hr)⟩
theorem CB.more {t : Addr} {r : List Str} (c : CB P w H0 ms g n rs Lw Ld S Wt Dn N Hc) (nW : H0 Lw = none) (nS : H0 S = none) (ht : Hc t = some (.tup (r.map V.str))) (nr : r ∉ (Wt ++ Dn).map (·.2)) (ok : r.length = n ∧ ∀ z ∈ r, z ∈ ms)
    (le : ∀ W : List (List Str), ClosedG g W → (∀ r ∈ rs, r ∈ W) → r ∈ W) (pN : N'.Perm ((t, kR r) :: N)) :
    CB P w H0 ms g n rs Lw Ld S (Wt ++ [(t, r)]) Dn N' (upd (upd Hc S (SetTO' P w S N')) Lw (.lst ((Wt ++ [(t, r)]).map fun e => V.ref e.1))) := by
  have pm : ((Wt ++ [(t, r)]) ++ Dn).Perm ((t, r) :: (Wt ++ Dn)) := by
    rw [List.append_assoc]
    exact List.perm_middle
  have pm2 := pm.map (·.2)
  have up : ∀ {b : Addr} {o : HO}, b ≠ S → b ≠ Lw → Hc b = some o → (upd (upd Hc S (SetTO' P w S N')) Lw (.lst ((Wt ++ [(t, r)]).map fun e => V.ref e.1))) b = some o := fun h1 h2 e => (upd_ne h2).trans ((upd_ne h1).trans e)
  have SW := lst_set c.hW c.hS
  have DS : Ld ≠ S := fun z => (lst_set c.hD c.hS) z.symm
  have tp : ∀ {b : Addr} {ys : List V}, Hc b = some (.tup ys) → (upd (upd Hc S (SetTO' P w S N')) Lw (.lst ((Wt ++ [(t, r)]).map fun e => V.ref e.1))) b = some (.tup ys) := fun h => up (setT_ne c.hS h) (lst_tup c.hW h) h
  have mm : ∀ r' : List Str, r' ∈ ((Wt ++ [(t, r)]) ++ Dn).map (·.2) ↔ r' = r ∨ r' ∈ (Wt ++ Dn).map (·.2) := fun r' => pm2.mem_iff.trans (by rw [List.map_cons, List.mem_cons])
  refine ⟨fun b o z => up (ne_of_none z nS) (ne_of_none z nW) (c.same _ _ z), c.ne, upd_same, up DS (Ne.symm c.ne) c.hD, (upd_ne SW).trans upd_same, fun u hu => ?_, fun u hu => ?_, ?_, fun r' => ?_, ?_, fun r' hr => ?_, fun r' hr => (mm r').mpr (.inr (c.base r' hr)), fun W h1 h2 r' hr => ?_⟩
  · rcases List.mem_cons.mp (pN.mem_iff.mp hu) with rfl | hu
    · show _ = some (HO.tup ((kR r).map kV))
      rw [kR_V]
      exact tp ht
    · exact tp (c.st u hu)
  · rcases List.mem_cons.mp (pm.mem_iff.mp hu) with rfl | hu
    · exact tp ht
    · exact tp (c.at_ u hu)
  · refine pm2.nodup_iff.mpr ?_
    rw [List.map_cons]
    exact List.nodup_cons.mpr ⟨nr, c.nd⟩
  · refine ((pN.map Prod.snd).mem_iff).trans ?_
    rw [List.map_cons, List.mem_cons, c.mem, mm]
    exact ⟨fun h => h.imp kR_inj id, fun h => h.imp (fun z => by rw [z]) id⟩
  · rw [pN.length_eq, pm.length_eq, List.length_cons, List.length_cons, c.len]
  · rcases (mm r').mp hr with rfl | hr
    · exact ok
    · exact c.ok r' hr
  · rcases (mm r').mp hr with rfl | hr
    · exact le W h1 h2
    · exact c.least W h1 h2 r' hr
/-- what comes of a row and the rest, and what each of it is -/
theorem lastAll_mem {x : List Str} {F : List (List Str)} {r : List Str} : r ∈ lastAll g x F ↔ ∃ y ∈ F, ∃ z ∈ F, r = gvn g x y z ∨ r = gvn g y x z ∨ r = gvn g y z x := by
  unfold lastAll lastG
  simp only [List.mem_flatMap, List.mem_cons, List.not_mem_nil, or_false]
end
end Yt

set_option Elab.async false
set_option linter.all false
set_option maxRecDepth 100000
set_option maxHeartbeats 2000000
namespace Yt
open PySem PySem.Spec PyProof.Rows L2
abbrev sClosedBy : Stmt := top 34
theorem rowsN_few {ms : List Str} {n : Nat} {F : List (List Str)} (R : RowsOk ms n F) (nd : F.Nodup) (few : ms.length ≤ 3) (n4 : n ≤ 4) : F.length ≤ 81 := by
  have h := nodup_few F (rowsN ms n) nd fun r hr => (rowsN_mem ms n r).mpr (R r hr)
  rw [rowsN_len] at h
  exact Nat.le_trans h (Nat.le_trans (Nat.pow_le_pow_left few n) (Nat.le_trans (Nat.pow_le_pow_right (by decide) n4) (by decide)))
section
variable {P : Program} {w : World} {K : PySem.W.Frag} {mg : Str → Option Value} {base : Heap} {f : Addr} {fd : FuncData} {C : Addr}
theorem scClosedBy : FnScope ["table", "way", "waiting", "found", "done", "row"] ["table", "way"] (defScope sClosedBy) := ⟨rfl, rfl, rfl, by decide +kernel, rfl, by decide +kernel, by decide +kernel⟩
def spClosedBy (C : Addr) : Sp := fun vs H Q _ => ∃ (p dw : Addr) (ms : List Str) (d : Nat) (rs : List (List Str)) (g : Str → Str → Str → Str), vs = [.ref p, .ref dw] ∧ TableAt C H p ms d rs ∧ MarksOk ms ∧ ms.length ≤ 3 ∧ d ≤ 3 ∧ RowsOk ms (d + 1) rs ∧ WayOk H dw ms g ∧ (∀ x ∈ ms, ∀ y ∈ ms, ∀ z ∈ ms, g x y z ∈ ms) ∧
  ∀ (q : Addr) (H' : Hp) (us : List (List Str)), H q = none → TableAt C H' q ms d us → (∀ r ∈ rs, r ∈ us) → ClosedG g us → (∀ W : List (List Str), ClosedG g W → (∀ r ∈ rs, r ∈ W) → ∀ r ∈ us, r ∈ W) → Same H H' → Q (.ref q) H'
theorem ok_closedby {fC fL : Addr} {dC dL : FuncData} (F : FnP K "closed_by" sClosedBy f fd) (TM : TM P w K mg base C) (T6 : Nm6 mg)
    (GC : FnOk P w K mg base CX0 3 fC dC ["table", "way"] (spNon (WayArgT C))) (bC : Binds K dC ["table", "way"] []) (kC : PySem.W.keepIn K (.ref fC) = true) (gC : mg "check_way" = some (.ref fC))
    (GL : FnOk P w K mg base CX0 2 fL dL ["way", "rows"] spLast) (bL : Binds K dL ["way", "rows"] []) (kL : PySem.W.keepIn K (.ref fL) = true) (gL : mg "_gifts_with_last" = some (.ref fL)) (hset : mg "set" = none) :
    FnOk P w K mg base CX0 6 f fd ["table", "way"] (spClosedBy C) := by
  obtain ⟨fI, dI, GI, bI, mk⟩ := TM.ini
  obtain ⟨fA, dA, GA, bA, mA⟩ := TM.marks
  obtain ⟨fW, dW, GW, bW, mW⟩ := TM.width
  obtain ⟨fR, dR, GR, bR, mR⟩ := TM.rows
  have TT := TM.tc
  refine F.ok scClosedBy (fun vs H Q E h => ?_) (fun cdv A outer s H vs Q E hr h => ?_)
  · obtain ⟨p, dw, ms, d, rs, g, rfl, _⟩ := h
    rfl
  · obtain ⟨p, dw, ms, d, rs, g, rfl, T1, ok, few, d3, rok, hw, hg, k⟩ := h
    have hu4 := units4 hr
    have hu := hu_of hr
    refine ⟨_, PSs.nox (pss_cons (ps_expr (pe_call GC (hr.mono (by decide)) rfl gC kC bC .nil pass0 (pa_cons (pv 0) (pa_cons (pv 1) pa_nil))))
      (pss_cons (ps_set (i := 2) scClosedBy.nd rfl (Or.inl rfl) (pe_meth0 (pv 0) TT.cl mR GR (hr.mono (by decide)) bR .nil pass0))
      (pss_cons (ps_set (i := 3) scClosedBy.nd rfl (Or.inl rfl) (pe_callTy (show CallR _ _ (rSetT K P w) from cr_setT rfl (units_le hu4 (by decide))) (by rfl) hset (by decide +kernel) (pa_cons (pv 2) pa_nil)))
      (pss_cons (ps_set (i := 4) scClosedBy.nd rfl (Or.inl rfl) (pe_lst pa_nil))
      (pss_cons (ps_while PassesOwn.never (pt_truth (pv 2) (by intro _; rfl))
        (pss_cons (ps_expr (pe_bm PySem.F.plainAttrs_list PySem.F.slot_list_append PySem.F.type_list_append mt_append (pv 4) (pa_cons (pe_bm0 PySem.F.plainAttrs_list PySem.F.slot_list_pop PySem.F.type_list_pop mt_pop (pv 2)) pa_nil)))
        (pss_one (ps_for PassesOwn.never rfl (pi_list (pe_call GL (hr.mono (by decide)) rfl gL kL bL .nil pass0 (pa_cons (pv 1) (pa_cons (pv 4) pa_nil)))) (pg_name (i := 5) scClosedBy.nd rfl (Or.inl rfl))
          (pss_one (ps_if (pt_cmpR (show OpR _ _ (rNInT P w) from op_notin_setT (units_le hu4 (by decide))) (pv 5) (pv 3) (by rfl))
            (pss_cons (ps_expr (show PE _ _ (tSAddT P w _ _) from pe_saddT (units_le hu4 (by decide)) (pv 3) (pa_cons (pv 5) pa_nil)))
            (pss_one (ps_expr (pe_bm PySem.F.plainAttrs_list PySem.F.slot_list_append PySem.F.type_list_append mt_append (pv 2) (pa_cons (pv 5) pa_nil))))) pss_nil))))))
      (pss_one (ps_ret (pe_make mk GI hr rfl TT.mgC bI .nil pass0 (pa_cons (pe_meth0 (pv 0) TT.cl mA GA (hr.mono (by decide)) bA .nil pass0) (pa_cons (pe_meth0 (pv 0) TT.cl mW GW (hr.mono (by decide)) bW .nil pass0) (pa_cons (pv 4) pa_nil))))))))))), ?_⟩
    obtain ⟨dx, A0, R0, M0, g0, q1, q2, q3, q4, up0⟩ := id T1
    have und : rs.Nodup := up0.nodup
    have l81 := rowsN_few rok und few (by omega)
    refine ⟨_, rfl, _, rfl, ⟨p, dw, ms, d, rs, g, rfl, T1, ok, hw⟩, fun H1 s1 => ?_⟩
    refine ⟨_, rfl, p, dx, _, rfl, s1 _ _ g0, no_attr (by decide +kernel), p, ms, d, rs, rfl, T1.to s1, fun Lw M H2 nL hL RM0 eM s2 => ?_⟩
    have RM := RM0.to s2
    have s02 : Same H H2 := fun b o e => s2 _ _ (s1 _ _ e)
    have lr : M.length = rs.length := by rw [← eM, List.length_map]
    refine ⟨_, rfl, Lw, rowsK M, rfl, SqL.of (by rw [hL]; unfold rowsK; rw [List.map_map]; rfl), rowsK_stand RM.at_, by unfold rowsK; rw [List.length_map, lr]; omega, fun S N nS sub all nd => ?_⟩
    refine ⟨(by show 0 ≤ sizeLine; decide), fun Ld nLd => ?_⟩
    have sS := same_new (o := SetTO' P w S N) nS
    have sD := same_new (o := .lst []) nLd
    have hS3 := sD _ _ (upd_same (H := H2) (a := S) (o := SetTO' P w S N))
    have hD3 := upd_same (H := upd H2 S (SetTO' P w S N)) (a := Ld) (o := .lst [])
    have s23 : Same H2 (upd (upd H2 S (SetTO' P w S N)) Ld (.lst [])) := fun b o e => sD _ _ (sS _ _ e)
    have nLd2 : H2 Ld = none := none_back sS nLd
    generalize upd (upd H2 S (SetTO' P w S N)) Ld (.lst []) = H3 at hS3 hD3 s23 ⊢
    have nW : H Lw = none := none_back s1 nL
    have nD : H Ld = none := none_back s02 nLd2
    have nS0 : H S = none := none_back s02 nS
    have kM : (rowsK M).map Prod.snd = rs.map kR := by
      rw [← eM]
      unfold rowsK
      rw [List.map_map, List.map_map]
      rfl
    have inN : ∀ r : List Str, kR r ∈ List.map Prod.snd N ↔ r ∈ rs := fun r => by
      constructor
      · intro h
        obtain ⟨e, he, ee⟩ := List.mem_map.mp h
        have : kR r ∈ rs.map kR := by rw [← kM, ← ee]; exact List.mem_map.mpr ⟨e, sub e he, rfl⟩
        obtain ⟨u, hu, eu⟩ := List.mem_map.mp this
        rw [← kR_inj eu]
        exact hu
      · intro h
        have : kR r ∈ (rowsK M).map Prod.snd := by rw [kM]; exact List.mem_map.mpr ⟨r, h, rfl⟩
        obtain ⟨e, he, ee⟩ := List.mem_map.mp this
        rw [← ee]
        exact all e he
    have lN : N.length = M.length := by
      have p1 : (N.map Prod.snd).Perm (rs.map kR) := (List.perm_ext_iff_of_nodup nd (List.pairwise_map.mpr (und.imp fun h z => h (kR_inj z)))).mpr fun k => by
        constructor
        · intro h
          obtain ⟨e, he, rfl⟩ := List.mem_map.mp h
          rw [← kM]
          exact List.mem_map.mpr ⟨e, sub e he, rfl⟩
        · intro h
          obtain ⟨r, hr, rfl⟩ := List.mem_map.mp h
          exact (inN r).mpr hr
      have := p1.length_eq
      rw [List.length_map, List.length_map] at this
      rw [this, lr]
    have c0 : CB P w H ms g (d + 1) rs Lw Ld S M [] N H3 := by
      have eA : (M ++ ([] : List (Addr × List Str))).map (·.2) = rs := by rw [List.append_nil, eM]
      exact ⟨fun b o e => s23 _ _ (s02 _ _ e), ne_of_none hL nLd2, s23 _ _ hL, hD3, hS3, fun e he => s23 _ _ (rowsK_stand RM.at_ e (sub e he)), fun e he => s23 _ _ (RM.at_ e (by simpa using he)), by rw [eA]; exact und, fun r => by rw [eA]; exact inN r, by rw [List.append_nil, lN], by rw [eA]; exact rok, by rw [eA]; exact fun r hr => hr, fun W h1 h2 r hr => h2 r (by rw [eA] at hr; exact hr)⟩
    have cfew : ∀ {Wt Dn : List (Addr × List Str)} {N : List (Addr × List Key)} {Hc : Hp}, CB P w H ms g (d + 1) rs Lw Ld S Wt Dn N Hc → (Wt ++ Dn).length ≤ 81 := fun c => by
      have := rowsN_few c.ok c.nd few (by omega)
      rwa [List.length_map] at this
    dsimp only [gName, tSeq]
    refine while_by (fun σ Hc => ∃ (u5 : Option V) (Wt Dn : List (Addr × List Str)) (N : List (Addr × List Key)), σ = [some (.ref p), some (.ref dw), some (.ref Lw), some (.ref S), some (.ref Ld), u5] ∧ CB P w H ms g (d + 1) rs Lw Ld S Wt Dn N Hc ∧ ∀ x ∈ Dn.map (·.2), ∀ y ∈ Dn.map (·.2), ∀ z ∈ Dn.map (·.2), gvn g x y z ∈ (Wt ++ Dn).map (·.2))
      (fun _ Hc => 82 - (match Hc Ld with | some (.lst xs) => xs.length | _ => 0)) ⟨_, M, [], N, rfl, c0, fun x hx => nomatch hx⟩ ?_ ?_
    · rintro σ Hc ⟨u5, Wt, Dn, N, rfl, c, cl⟩
      by_cases hW : Wt = []
      · subst hW
        refine ⟨_, rfl, false, .inl ⟨_, SqL.of c.hW, rfl⟩, ?_⟩
        refine iteF ?_
        have T2 := T1.to c.same
        refine ⟨_, rfl, p, dx, _, rfl, c.same _ _ g0, no_attr (by decide +kernel), p, ms, d, rs, rfl, T2, fun A5 H5 nA5 hA5 s5 => ?_⟩
        refine ⟨_, rfl, p, dx, _, rfl, s5 _ _ (c.same _ _ g0), no_attr (by decide +kernel), p, ms, d, rs, rfl, T2.to s5, _, rfl, ?_⟩
        have lD := cfew c
        rw [List.nil_append] at lD
        have cok := c.ok
        have cb := c.base
        have cle := c.least
        rw [List.nil_append] at cok cb cle cl
        intro x dx' nx ndx nex
        refine make_table (C := C) (E := E0) (Q := Q) (d := d) hA5 ok d3 (s5 _ _ c.hD) ⟨fun e he => s5 _ _ (c.at_ e he), fun e he => (cok _ (List.mem_map.mpr ⟨e, he, rfl⟩)).1, by omega⟩ (fun e he => (cok _ (List.mem_map.mpr ⟨e, he, rfl⟩)).2) ?_ x dx' nx ndx nex
        intro q H7 us nq mu T7 s7
        have s07 : Same H H7 := fun b o z => s7 _ _ (s5 _ _ (c.same _ _ z))
        exact k q H7 us (none_back (fun b o z => s5 _ _ (c.same _ _ z)) nq) T7 (fun r hr => (mu r).mpr (cb r hr)) (fun x hx y hy z hz => (mu _).mpr (cl x ((mu x).mp hx) y ((mu y).mp hy) z ((mu z).mp hz))) (fun W h1 h2 r hr => cle W h1 h2 r ((mu r).mp hr)) s07
      · obtain ⟨Wt0, e, rfl⟩ : ∃ Wt0 e, Wt = Wt0 ++ [e] := ⟨Wt.dropLast, Wt.getLast hW, (List.dropLast_concat_getLast hW).symm⟩
        have e0 : ((Wt0 ++ [e]).map fun e => V.ref e.1) = (Wt0.map fun e => V.ref e.1) ++ [V.ref e.1] := by rw [List.map_append] <;> rfl
        have lc := cfew c
        have hWc := c.hW
        rw [e0] at hWc
        refine ⟨_, rfl, true, .inl ⟨_, SqL.of hWc, by simp⟩, ?_⟩
        refine iteT ?_
        have c1 := c.pop nW nD
        refine ⟨_, rfl, .inl ⟨rfl, _, SqL.of c.hD⟩, _, rfl, .inl ⟨rfl, _, SqL.of hWc⟩, Lw, _, V.ref e.1, rfl, rfl, hWc, by simp, Ld, _, _, rfl, rfl, (upd_ne (Ne.symm c.ne)).trans c.hD, ?_, ?_⟩
        · rw [List.length_map, sizeLine_eq]
          rw [List.length_append] at lc
          omega
        rw [List.dropLast_concat, show ((Dn.map fun e => V.ref e.1) ++ [V.ref e.1]) = (Dn ++ [e]).map fun e => V.ref e.1 by rw [List.map_append] <;> rfl]
        generalize upd (upd Hc Lw (.lst (Wt0.map fun e => V.ref e.1))) Ld (.lst ((Dn ++ [e]).map fun e => V.ref e.1)) = H4 at c1 ⊢
        have perm0 : ∀ r, r ∈ ((Wt0 ++ [e]) ++ Dn).map (·.2) ↔ r ∈ (Wt0 ++ (Dn ++ [e])).map (·.2) := fun r => by
          simp only [List.map_append, List.map_cons, List.map_nil, List.mem_append, List.mem_singleton]
          exact ⟨fun h => h.elim (fun h => h.elim .inl fun h => .inr (.inr h)) fun h => .inr (.inl h), fun h => h.elim (fun h => .inl (.inl h)) fun h => h.elim .inr fun h => .inl (.inr h)⟩
        have okD : RowsOk ms (d + 1) ((Dn ++ [e]).map (·.2)) := fun r hr => c1.ok r (by rw [List.map_append]; exact List.mem_append_right _ hr)
        have lc1 := cfew c1
        rw [List.length_append, List.length_append] at lc1
        refine ⟨_, rfl, _, rfl, dw, Ld, ms, g, d + 1, Dn, e, rfl, (hw.to c1.same).at_, ⟨c1.hD, fun u hu => c1.at_ u (List.mem_append_right _ hu)⟩, okD, by omega, by omega, fun L Hg nLg Bg => ?_⟩
        obtain ⟨G, hLG, eG, hGs, sg⟩ := Bg
        have c2 := c1.keep sg
        have LW : L ≠ Lw := fun z => by
          rw [z, c1.hW] at nLg
          cases nLg
        have LS : L ≠ S := fun z => by
          rw [z, c1.hS] at nLg
          cases nLg
        have lG : (G.map fun e => V.ref e.1).length = (lastAll g e.2 ((Dn ++ [e]).map (·.2))).length := by rw [← eG, List.length_map, List.length_map]
        refine ⟨L, rfl, ⟨_, SqL.of hLG⟩, for_list (K := K) (a := L) (xs := G.map fun e => V.ref e.1) (fun j σ Hd => ∃ (u5 : Option V) (Wt1 : List (Addr × List Str)) (N1 : List (Addr × List Key)), σ = [some (.ref p), some (.ref dw), some (.ref Lw), some (.ref S), some (.ref Ld), u5] ∧ CB P w H ms g (d + 1) rs Lw Ld S Wt1 (Dn ++ [e]) N1 Hd ∧ Hd L = some (.lst (G.map fun e => V.ref e.1)) ∧ (∀ u ∈ G, Hd u.1 = some (.tup (u.2.map V.str))) ∧ (∀ r ∈ (G.map (·.2)).take j, r ∈ (Wt1 ++ (Dn ++ [e])).map (·.2)) ∧ ∀ r ∈ (Wt0 ++ (Dn ++ [e])).map (·.2), r ∈ (Wt1 ++ (Dn ++ [e])).map (·.2))
          ⟨_, Wt0, N, rfl, c2, hLG, fun u hu => (hGs u hu).2, fun r hr => by simp at hr, fun r hr => hr⟩ (fun j σ Hd _ ⟨_, _, _, _, _, z, _⟩ => SqL.of z) ?_ ?_⟩
        · rintro j v σ Hd hj ⟨u5', Wt1, N1, rfl, c3, hL3, hG3, dn3, mo3⟩
          rw [List.getElem?_map] at hj
          obtain ⟨u, eu, rfl⟩ := Option.map_eq_some_iff.mp hj
          have um := List.mem_of_getElem? eu
          have ht := hG3 u um
          have er : (G.map (·.2))[j]? = some u.2 := by rw [List.getElem?_map, eu] <;> rfl
          have ur : u.2 ∈ lastAll g e.2 ((Dn ++ [e]).map (·.2)) := by
            rw [← eG]
            exact List.mem_map.mpr ⟨u, um, rfl⟩
          have eD : e.2 ∈ (Dn ++ [e]).map (·.2) := List.mem_map.mpr ⟨e, List.mem_append_right _ (List.mem_singleton.mpr rfl), rfl⟩
          obtain ⟨y, hy, z, hz, how⟩ := lastAll_mem.mp ur
          obtain ⟨oe, oe'⟩ := okD _ eD
          obtain ⟨oy, oy'⟩ := okD _ hy
          obtain ⟨oz, oz'⟩ := okD _ hz
          have oku : u.2.length = d + 1 ∧ ∀ z ∈ u.2, z ∈ ms := by
            rcases how with h | h | h <;> rw [h]
            · exact ⟨gvn_len oe oy oz, gvn_over hg oe' oy' oz'⟩
            · exact ⟨gvn_len oy oe oz, gvn_over hg oy' oe' oz'⟩
            · exact ⟨gvn_len oy oz oe, gvn_over hg oy' oz' oe'⟩
          have leu : ∀ W : List (List Str), ClosedG g W → (∀ r ∈ rs, r ∈ W) → u.2 ∈ W := fun W h1 h2 => by
            have inW : ∀ r ∈ (Dn ++ [e]).map (·.2), r ∈ W := fun r hr => c3.least W h1 h2 r (by rw [List.map_append]; exact List.mem_append_right _ hr)
            rcases how with h | h | h <;> rw [h]
            · exact h1 _ (inW _ eD) _ (inW _ hy) _ (inW _ hz)
            · exact h1 _ (inW _ hy) _ (inW _ eD) _ (inW _ hz)
            · exact h1 _ (inW _ hy) _ (inW _ hz) _ (inW _ eD)
          have l3 := cfew c3
          have stepD : ∀ {A : List (List Str)}, (∀ r ∈ (G.map (·.2)).take j, r ∈ A) → u.2 ∈ A → ∀ r ∈ (G.map (·.2)).take (j + 1), r ∈ A := fun h1 h2 r hr => by
            rw [List.take_add_one, er] at hr
            rcases List.mem_append.mp hr with hr | hr
            · exact h1 r hr
            · obtain rfl : r = u.2 := by simpa using hr
              exact h2
          refine ⟨_, rfl, _, rfl, u.1, S, kR u.2, N1, decide (u.2 ∈ (Wt1 ++ (Dn ++ [e])).map (·.2)), rfl, rfl, by rw [kR_V]; exact ht, c3.hS, c3.st, by rw [decide_eq_true_iff]; exact (c3.mem u.2).symm, ?_⟩
          by_cases c : u.2 ∈ (Wt1 ++ (Dn ++ [e])).map (·.2)
          · rw [decide_eq_true c]
            exact ⟨_, rfl, _, Wt1, N1, rfl, c3, hL3, hG3, stepD dn3 c, mo3⟩
          · rw [decide_eq_false c]
            refine ⟨_, rfl, _, rfl, ⟨S, N1, rfl, c3.hS, c3.st⟩, _, rfl, S, _, rfl, rfl, u.1, kR u.2, N1, rfl, by rw [kR_V]; exact ht, c3.hS, c3.st, by rw [c3.len]; omega, fun L' _ pn => ?_⟩
            have pN := pn (fun h => c ((c3.mem u.2).mp h))
            have c4 := c3.more nW nS0 ht c oku leu pN
            have SW : Lw ≠ S := fun z => (lst_set c3.hW c3.hS) z.symm
            have hW4 : (upd Hd S (SetTO' P w S L')) Lw = some (.lst (Wt1.map fun e => V.ref e.1)) := (upd_ne SW).trans c3.hW
            refine ⟨_, rfl, .inl ⟨rfl, _, SqL.of hW4⟩, _, rfl, Lw, _, _, rfl, rfl, hW4, by rw [List.length_map, sizeLine_eq]; rw [List.length_append] at l3; omega, ?_⟩
            have keep4 : ∀ {b : Addr} {o : HO}, b ≠ S → b ≠ Lw → Hd b = some o → (upd (upd Hd S (SetTO' P w S L')) Lw (.lst ((Wt1 ++ [(u.1, u.2)]).map fun e => V.ref e.1))) b = some o := fun h1 h2 e => (upd_ne h2).trans ((upd_ne h1).trans e)
            rw [show ((Wt1.map fun e => V.ref e.1) ++ [V.ref u.1]) = (Wt1 ++ [(u.1, u.2)]).map fun e => V.ref e.1 by rw [List.map_append] <;> rfl]
            have sub : ∀ r ∈ (Wt1 ++ (Dn ++ [e])).map (·.2), r ∈ ((Wt1 ++ [(u.1, u.2)]) ++ (Dn ++ [e])).map (·.2) := fun r hr => by
              rw [List.map_append] at hr
              rw [List.map_append, List.map_append]
              rcases List.mem_append.mp hr with hr | hr
              · exact List.mem_append_left _ (List.mem_append_left _ hr)
              · exact List.mem_append_right _ hr
            refine ⟨_, Wt1 ++ [(u.1, u.2)], L', rfl, c4, keep4 LS LW hL3, fun v hv => ?_, stepD (fun r hr => sub r (dn3 r hr)) ?_, fun r hr => sub r (mo3 r hr)⟩
            · have h := hG3 v hv
              exact keep4 (setT_ne c3.hS h) (lst_tup c3.hW h) h
            · rw [List.map_append, List.map_append]
              exact List.mem_append_left _ (List.mem_append_right _ (List.mem_singleton.mpr rfl))
        · rintro σ Hd ⟨u5', Wt1, N1, rfl, c3, hL3, hG3, dn3, mo3⟩
          rw [lG, ← eG, List.take_length, eG] at dn3
          refine ⟨⟨_, Wt1, Dn ++ [e], N1, rfl, c3, fun x hx y hy z hz => ?_⟩, ?_⟩
          · have old : ∀ r, r ∈ (Dn ++ [e]).map (·.2) → r ∈ Dn.map (·.2) ∨ r = e.2 := fun r hr => by
              rw [List.map_append] at hr
              rcases List.mem_append.mp hr with hr | hr
              · exact .inl hr
              · exact .inr (by simpa using hr)
            rcases old x hx with hx' | rfl
            · rcases old y hy with hy' | rfl
              · rcases old z hz with hz' | rfl
                · exact mo3 _ ((perm0 _).mp (cl x hx' y hy' z hz'))
                · exact dn3 _ (lastAll_mem.mpr ⟨x, hx, y, hy, .inr (.inr rfl)⟩)
              · exact dn3 _ (lastAll_mem.mpr ⟨x, hx, z, hz, .inr (.inl rfl)⟩)
            · exact dn3 _ (lastAll_mem.mpr ⟨y, hy, z, hz, .inl rfl⟩)
          · have h4 := c3.hD
            show 82 - (match Hd Ld with | some (.lst xs) => xs.length | _ => 0) < 82 - (match Hc Ld with | some (.lst xs) => xs.length | _ => 0)
            rw [h4, c.hD]
            show 82 - ((Dn ++ [e]).map fun e => V.ref e.1).length < 82 - (Dn.map fun e => V.ref e.1).length
            rw [List.length_map, List.length_map, List.length_append, List.length_singleton]
            rw [List.length_singleton] at lc1
            omega
    · rintro σ Hc Q1 Q2 imp ⟨x, ex, k', t, q⟩
      exact ⟨x, ex, k', t, imp _ _ q⟩
end
end Yt

set_option Elab.async false
set_option linter.all false
set_option maxRecDepth 100000
set_option maxHeartbeats 2000000
namespace Yt
open PySem PySem.Spec PyProof.Rows L2
abbrev sKeepsP : Stmt := top 36
theorem closed_same {g : Str → Str → Str → Str} {F G : List (List Str)} (h : ∀ r, r ∈ F ↔ r ∈ G) : ClosedG g F ↔ ClosedG g G :=
  ⟨fun c x hx y hy z hz => (h _).mp (c x ((h x).mpr hx) y ((h y).mpr hy) z ((h z).mpr hz)), fun c x hx y hy z hz => (h _).mpr (c x ((h x).mp hx) y ((h y).mp hy) z ((h z).mp hz))⟩
open Classical in
/-- whether the pairs at two places are kept -/
noncomputable def clB (g : Str → Str → Str → Str) (rs : List (List Str)) (q : Nat × Nat) : Bool := decide (ClosedG g (rs.map (spotted [q.1, q.2])))
open Classical in
theorem clB_iff {g : Str → Str → Str → Str} {rs : List (List Str)} {q : Nat × Nat} : clB g rs q = true ↔ ClosedG g (rs.map (spotted [q.1, q.2])) := by
  unfold clB
  exact decide_eq_true_iff
section
variable {P : Program} {w : World} {K : PySem.W.Frag} {mg : Str → Option Value} {base : Heap} {f : Addr} {fd : FuncData} {C : Addr}
theorem scKeepsP : FnScope ["table", "way", "i", "j"] ["table", "way"] (defScope sKeepsP) := ⟨rfl, rfl, rfl, by decide +kernel, rfl, by decide +kernel, by decide +kernel⟩
def spKeepsP (C : Addr) : Sp := fun vs H Q _ => ∃ (p dw : Addr) (ms : List Str) (d : Nat) (rs : List (List Str)) (g : Str → Str → Str → Str) (m : List (List Key × V)), vs = [.ref p, .ref dw] ∧ TableAt C H p ms d rs ∧ MarksOk ms ∧ d ≤ 3 ∧ rs.length ≤ 81 ∧ RowsOk ms (d + 1) rs ∧ WayIn H dw ms m ∧ majB ms m = true ∧ (∀ x ∈ ms, ∀ y ∈ ms, ∀ z ∈ ms, valV m [Sum.inr x, Sum.inr y, Sum.inr z] = some (.str (g x y z))) ∧
  ∀ H', Same H H' → Q (.bl ((twosN (d + 1)).all (clB g rs))) H'
theorem ok_keepsp {fT fM f2 fC fK : Addr} {dT dM d2 dC dK : FuncData} (F : FnP K "keeps_by_pairs" sKeepsP f fd) (TM : TM P w K mg base C) (T6 : Nm6 mg)
    (GT : FnOk P w K mg base CX0 1 fT dT ["table"] (spNon (TableArg C))) (bT : Binds K dT ["table"] []) (kT : PySem.W.keepIn K (.ref fT) = true) (gT : mg "check_table" = some (.ref fT))
    (GM : FnOk P w K mg base CX0 3 fM dM ["marks", "value"] spMajB) (bM : Binds K dM ["marks", "value"] []) (kM : PySem.W.keepIn K (.ref fM) = true) (gM : mg "is_majority_over" = some (.ref fM))
    (G2 : FnOk P w K mg base CX0 1 f2 d2 ["width"] spTwos) (b2 : Binds K d2 ["width"] []) (k2 : PySem.W.keepIn K (.ref f2) = true) (g2 : mg "twos_of" = some (.ref f2))
    (GC : FnOk P w K mg base CX0 6 fC dC ["table", "spots"] (spChosen C)) (bC : Binds K dC ["table", "spots"] []) (kC : PySem.W.keepIn K (.ref fC) = true) (gC : mg "chosen" = some (.ref fC))
    (GK : FnOk P w K mg base CX0 5 fK dK ["table", "way"] (spKeeps C)) (bK : Binds K dK ["table", "way"] []) (kK : PySem.W.keepIn K (.ref fK) = true) (gK : mg "keeps" = some (.ref fK)) :
    FnOk P w K mg base CX0 7 f fd ["table", "way"] (spKeepsP C) := by
  obtain ⟨fA, dA, GA, bA, mA⟩ := TM.marks
  obtain ⟨fW, dW, GW, bW, mW⟩ := TM.width
  have TT := TM.tc
  refine F.ok scKeepsP (fun vs H Q E h => ?_) (fun cdv A outer s H vs Q E hr h => ?_)
  · obtain ⟨p, dw, ms, d, rs, g, m, rfl, _⟩ := h
    rfl
  · obtain ⟨p, dw, ms, d, rs, g, m, rfl, T1, ok, d3, few, rok, hw, mj, hv, k⟩ := h
    have hu := hu_of hr
    refine ⟨_, PSs.nox (pss_cons (ps_expr (pe_call GT (hr.mono (by decide)) rfl gT kT bT .nil pass0 (pa_cons (pv 0) pa_nil)))
      (pss_cons (ps_if (pt_not (pt_val (pe_call GM (hr.mono (by decide)) rfl gM kM bM .nil pass0 (pa_cons (pe_meth0 (pv 0) TT.cl mA GA (hr.mono (by decide)) bA .nil pass0) (pa_cons (pv 1) pa_nil))))) (pss_one ps_never) pss_nil)
      (pss_one (ps_ret (pe_callB (cr_all rfl) (by rfl) T6.all (by decide +kernel) (pa_cons
        (pe_lc (own := [("i", 2), ("j", 3)]) (g := gTup K 2 (gCons (gName 2) (gCons (gName 3) gNil))) (tt := tYes) (te := tCall (spKeeps C) [] E0 (tCons (tCall (spChosen C) [] E0 (tCons (tVar 0) (tCons (tLst (tCons (tVar 2) (tCons (tVar 3) tNil))) tNil))) (tCons (tVar 1) tNil))) rfl scKeepsP.nd (pi_list (pe_call G2 (hr.mono (by decide)) rfl g2 k2 b2 .nil pass0 (pa_cons (pe_meth0 (pv 0) TT.cl mW GW (hr.mono (by decide)) bW .nil pass0) pa_nil))) (blkOk_by (own := [("i", 2), ("j", 3)]) (N := ["table", "way", "i", "j"]) (sc := defScope sKeepsP) (by decide +kernel))
        (fun _ _ _ _ _ => pg_tup rfl (pgs_cons (pg_name (i := 2) scKeepsP.nd rfl (Or.inl rfl)) (pgs_cons (pg_name (i := 3) scKeepsP.nd rfl (Or.inl rfl)) pgs_nil))) (fun _ _ _ _ _ => pts_nil)
        (fun _ _ _ _ _ => pe_call GK (hr.mono (by decide)) rfl gK kK bK .nil pass0 (pa_cons (pe_call GC (hr.mono (by decide)) rfl gC kC bC .nil pass0 (pa_cons (pv 0) (pa_cons (pe_lst (pa_cons (pv 2) (pa_cons (pv 3) pa_nil))) pa_nil))) (pa_cons (pv 1) pa_nil)))) pa_nil)))))), ?_⟩
    obtain ⟨dx, A0, R0, M0, g0, _⟩ := id T1
    refine ⟨_, rfl, ⟨p, ms, d, rs, rfl, T1⟩, fun H1 s1 => ?_⟩
    refine ⟨_, rfl, p, dx, _, rfl, s1 _ _ g0, no_attr (by decide +kernel), p, ms, d, rs, rfl, T1.to s1, fun L H2 nL hL s2 => ?_⟩
    have s02 : Same H H2 := fun b o e => s2 _ _ (s1 _ _ e)
    refine ⟨_, rfl, ms, m, ⟨L, dw, rfl, hL, ok, hw.to s02⟩, fun H3 s3 => ⟨true, by rw [mj], ?_⟩⟩
    refine iteF ?_
    have s03 : Same H H3 := fun b o e => s3 _ _ (s02 _ _ e)
    refine ⟨_, rfl, p, dx, _, rfl, s03 _ _ g0, no_attr (by decide +kernel), p, ms, d, rs, rfl, T1.to s03, d, rfl, d3, fun L4 M4 H4 nL4 hL4 eM4 hM4 s4 => ?_⟩
    have s04 : Same H H4 := fun b o e => s4 _ _ (s03 _ _ e)
    have lM : (M4.map fun e => V.ref e.1).length = (twosN (d + 1)).length := by rw [← eM4, List.length_map, List.length_map]
    have few2 : (twosN (d + 1)).length ≤ 10 := by
      match d, d3 with
      | 0, _ => decide
      | 1, _ => decide
      | 2, _ => decide
      | 3, _ => decide
    refine ⟨L4, rfl, ⟨_, SqL.of hL4⟩, fun D hD => ?_⟩
    refine lc_list (K := K) (a := L4) (xs := M4.map fun e => V.ref e.1) (fun i Hx => Hx D = some (.lst ((((twosN (d + 1)).take i).map (clB g rs)).map V.bl)) ∧ Same H4 Hx) ⟨upd_same, same_new hD⟩ (fun i Hx _ q => SqL.of (q.2 _ _ hL4)) ?_ ?_
    · rintro i v Hx ei ⟨q1, q2⟩
      rw [List.getElem?_map] at ei
      obtain ⟨u, eu, rfl⟩ := Option.map_eq_some_iff.mp ei
      have um := List.mem_of_getElem? eu
      have er : (twosN (d + 1))[i]? = some u.2 := by rw [← eM4, List.getElem?_map, eu] <;> rfl
      obtain ⟨ij, jd⟩ := twosN_mem.mp (List.mem_of_getElem? er)
      have s0x : Same H Hx := fun b o e => q2 _ _ (s04 _ _ e)
      refine ⟨_, _, rfl, SqT.of (q2 _ _ (hM4 u um)), rfl, _, _, rfl, _, _, rfl, rfl, rfl, ?_⟩
      refine ⟨_, rfl, _, rfl, _, rfl, (by show 2 ≤ sizeLine; decide), fun l nl => ?_⟩
      have sl := same_new (o := .lst [V.int (u.2.1 : Nat), V.int (u.2.2 : Nat)]) nl
      refine ⟨p, l, ms, d, 1, rs, [u.2.1, u.2.2], rfl, (T1.to s0x).to sl, ok, few, d3, fun r hr => (rok r hr).2, upd_same, rfl, by decide, fun a ha => ?_, fun x H6 ws nx mw T6 s6 => ?_⟩
      · rcases List.mem_cons.mp ha with rfl | ha
        · omega
        · obtain rfl : a = u.2.2 := by simpa using ha
          exact jd
      have s46 : Same H4 H6 := fun b o e => s6 _ _ (sl _ _ (q2 _ _ e))
      have s06 : Same H H6 := fun b o e => s46 _ _ (s04 _ _ e)
      have wok : RowsOk ms (1 + 1) ws := fun r hr => by
        obtain ⟨r0, hr0, rfl⟩ := List.mem_map.mp ((mw r).mp hr)
        obtain ⟨l0, o0⟩ := rok r0 hr0
        refine ⟨rfl, fun z hz => ?_⟩
        obtain ⟨a, ha, rfl⟩ := List.mem_map.mp hz
        have ad : a < r0.length := by
          rcases List.mem_cons.mp ha with rfl | ha
          · omega
          · obtain rfl : a = u.2.2 := by simpa using ha
            omega
        refine o0 _ ?_
        unfold at_
        rw [List.getD_eq_getElem?_getD, List.getElem?_eq_getElem ad]
        exact List.getElem_mem ad
      have wnd : ws.length ≤ rs.length := by
        obtain ⟨_, _, _, _, _, _, _, _, _, upw⟩ := id T6
        have := nodup_few ws (rs.map (spotted [u.2.1, u.2.2])) upw.nodup fun r hr => (mw r).mp hr
        rwa [List.length_map] at this
      refine ⟨_, rfl, x, dw, ms, 1, ws, g, clB g rs u.2, rfl, T6, ok, by decide, by omega, wok, ⟨m, hw.to s06, hv⟩, ?_, fun H7 s7 => ?_⟩
      · rw [clB_iff]
        exact (closed_same mw).symm
      refine ⟨_, s7 _ _ (s6 _ _ (sl _ _ q1)), ?_, ?_, fun b o z => (upd_ne (ne_of_none z hD)).trans (s7 _ _ (s46 _ _ z))⟩
      · rw [List.length_map, List.length_map, List.length_take]
        exact len_ok (by omega)
      · rw [upd_same, List.take_add_one, er, List.map_append, List.map_append]
        rfl
    · rintro Hx ⟨q1, q2⟩
      rw [lM, List.take_length] at q1
      refine ⟨D, _, rfl, SqL.of q1, ?_⟩
      have e1 : ((twosN (d + 1)).map (clB g rs)).all id = (twosN (d + 1)).all (clB g rs) := by
        rw [List.all_map]
        rfl
      rw [e1]
      exact k _ fun b o z => q2 _ _ (s04 _ _ z)
end
end Yt

set_option Elab.async false
set_option linter.all false
set_option maxRecDepth 100000
set_option maxHeartbeats 2000000
namespace Yt
open PySem PySem.Spec PyProof.Rows L2
abbrev sLPlain : Stmt := top 63
def forBody : Stmt → List Stmt
  | .For _ _ b _ _ => b
  | .While _ b _ _ => b
  | _ => []
abbrev noSt : Stmt := .Pass ⟨0, 0, 0, 0⟩
theorem pstW {X : Cx} {st : Stmt} {t t' : TS} (h : PS X st t) (k : ∀ D σ H, t' D σ H → t D σ H) : PS X st t' := ⟨fun pins s σ H D I q => h.run pins s σ H D I (k D σ H q)⟩
abbrev plainN : List Str := ["_law_way", "_law_rows", "_law_found", "_law_fresh", "_law_told", "_law_one", "_law_two", "_law_three", "_law_row_here"]
abbrev stW : Stmt := (defBody sLPlain).getD 1 noSt
abbrev stO : Stmt := (forBody stW).getD 1 noSt
theorem scPlain : FnScope plainN ["_law_way", "_law_rows"] (defScope sLPlain) := ⟨rfl, rfl, rfl, by decide +kernel, rfl, by decide +kernel, by decide +kernel⟩
abbrev CXp (P : Program) (w : World) (K : PySem.W.Frag) (mg : Str → Option Value) (base : Heap) (f : Addr) (cdv : Value) (A : Around) (outer : List Env) (s : Shared) (H : Hp) (E : XK) : Cx := (cxOf CX0 P w K mg base plainN "_law_plain_closed" (defScope sLPlain) f cdv A outer s H E).nox
abbrev RoomP (A : Around) (s : Shared) (f : Addr) (cdv : Value) : Prop := Room 1 (A.deeper (envOfC "_law_plain_closed" (defScope sLPlain) s.heap.objs.size f cdv))
/-- what is told of all threes so far, at Ld -/
structure LateB (Ld : Addr) (H0 : Hp) (g : Str → Str → Str → Str) (F L : List (List Str)) (H : Hp) : Prop where
  at_ : H Ld = some (.dT (DR L))
  nd : L.Nodup
  of : ∀ r ∈ L, ∃ x ∈ F, ∃ y ∈ F, ∃ z ∈ F, r = gvn g x y z
  but : But Ld H0 H
theorem LateB.ok {Ld : Addr} {H0 H : Hp} {g : Str → Str → Str → Str} {F L : List (List Str)} {ms : List Str} {n : Nat} (I : LateB Ld H0 g F L H) (rok : RowsOk ms n F) (hg : ∀ x ∈ ms, ∀ y ∈ ms, ∀ z ∈ ms, g x y z ∈ ms) : RowsOk ms n L := fun r hr => by
  obtain ⟨x, hx, y, hy, z, hz, rfl⟩ := I.of r hr
  exact ⟨gvn_len (rok x hx).1 (rok y hy).1 (rok z hz).1, gvn_over hg (rok x hx).2 (rok y hy).2 (rok z hz).2⟩
section
variable {P : Program} {w : World} {K : PySem.W.Frag} {mg : Str → Option Value} {base : Heap} {f : Addr} {fd : FuncData} {cdv : Value} {A0 : Around} {outer : List Env} {s0 : Shared} {H0 : Hp} {E : XK}
theorem st_told8 {fG : Addr} {dG : FuncData}
    (GG : FnOk P w K mg base CX0 1 fG dG ["_law_way", "_law_rows"] spLGiven) (bG : Binds K dG ["_law_way", "_law_rows"] []) (kG : PySem.W.keepIn K (.ref fG) = true) (gG : mg "_law_given" = some (.ref fG)) (hr : RoomP A0 s0 f cdv) :
    PS (CXp P w K mg base f cdv A0 outer s0 H0 E) stO (fun D σ H => ∃ (v1 v3 v5 v6 v7 v8 : Option V) (dw Fd Ld : Addr) (ms : List Str) (g : Str → Str → Str → Str) (n : Nat) (B : List (Addr × List Str)), σ = [some (.ref dw), v1, some (.ref Fd), v3, some (.ref Ld), v5, v6, v7, v8] ∧ WayAt H dw ms g ∧ dw ≠ Ld ∧ (∀ x ∈ ms, ∀ y ∈ ms, ∀ z ∈ ms, g x y z ∈ ms) ∧ ms.length ≤ 3 ∧ n ≤ 4 ∧ RowsAt H Fd B ∧ RowsOk ms n (B.map (·.2)) ∧ H Ld = some (.dT []) ∧
      ∀ (L : List (List Str)) (u5 u6 u7 : Option V) (H' : Hp), LateB Ld H g (B.map (·.2)) L H' → (∀ x ∈ B.map (·.2), ∀ y ∈ B.map (·.2), ∀ z ∈ B.map (·.2), gvn g x y z ∈ L) → D.nx [some (.ref dw), v1, some (.ref Fd), v3, some (.ref Ld), u5, u6, u7, v8] H') := by
  have hu := hu_of hr
  refine pstW (ps_for PassesOwn.never rfl (pi_list (pv 2)) (pg_name (i := 5) scPlain.nd rfl (Or.inl rfl))
    (pss_one (ps_for PassesOwn.never rfl (pi_list (pv 2)) (pg_name (i := 6) scPlain.nd rfl (Or.inl rfl))
      (pss_one (ps_for PassesOwn.never rfl (pi_list (pv 2)) (pg_name (i := 7) scPlain.nd rfl (Or.inl rfl))
        (pss_one (ps_dput hu (pv 4) (pe_call GG (hr.mono (by decide)) rfl gG kG bG .nil pass0 (pa_cons (pv 0) (pa_cons (pe_tup (pa_cons (pv 5) (pa_cons (pv 6) (pa_cons (pv 7) pa_nil)))) pa_nil))) pe_bl rfl))))))) fun D σ H h => ?_
  obtain ⟨v1, v3, v5, v6, v7, v8, dw, Fd, Ld, ms, g, n, B, rfl, hway, nw, hg, few, n4, hS, ok, h0, k⟩ := h
  have SL : Fd ≠ Ld := fun q => by
    have := hS.1
    rw [q, h0] at this
    cases this
  have l3 : 3 ≤ sizeLine := by decide
  have lB : (B.map fun e => V.ref e.1).length = B.length := List.length_map _
  have at_ : ∀ {i : Nat} {v : V}, (B.map fun e => V.ref e.1)[i]? = some v → ∃ u, B[i]? = some u ∧ u ∈ B ∧ u.2 ∈ B.map (·.2) ∧ v = .ref u.1 := fun {i v} e => by
    rw [List.getElem?_map] at e
    obtain ⟨u, hu, rfl⟩ := Option.map_eq_some_iff.mp e
    exact ⟨u, hu, List.mem_of_getElem? hu, List.mem_map.mpr ⟨u, List.mem_of_getElem? hu, rfl⟩, rfl⟩
  have neT : ∀ {b : Addr} {r : List Str}, H b = some (.tup (r.map V.str)) → b ≠ Ld := fun {b r} e q => by
    rw [q, h0] at e
    cases e
  refine ⟨_, rfl, Fd, rfl, ⟨_, SqL.of hS.1⟩, for_list (K := K) (a := Fd) (xs := B.map fun e => V.ref e.1) (fun i σ Hb => ∃ (u5 u6 u7 : Option V) (L : List (List Str)), σ = [some (.ref dw), v1, some (.ref Fd), v3, some (.ref Ld), u5, u6, u7, v8] ∧ LateB Ld H g (B.map (·.2)) L Hb ∧ ∀ x ∈ B.take i, ∀ y ∈ B, ∀ z ∈ B, gvn g x.2 y.2 z.2 ∈ L)
    ⟨_, _, _, [], rfl, ⟨h0, List.nodup_nil, (fun r hr => nomatch hr), fun _ _ _ e => e⟩, fun x hx => by simp at hx⟩ (fun i σ Hb _ ⟨_, _, _, _, _, I, _⟩ => SqL.of (I.but _ _ SL hS.1)) ?_ ?_⟩
  · rintro i v σ Hb hi ⟨u5, u6, u7, L, rfl, I, hb⟩
    obtain ⟨x, ex, xm, xr, rfl⟩ := at_ hi
    refine ⟨_, rfl, Fd, rfl, ⟨_, SqL.of (I.but _ _ SL hS.1)⟩, for_list (K := K) (a := Fd) (xs := B.map fun e => V.ref e.1) (fun j σ Hc => ∃ (u6 u7 : Option V) (L : List (List Str)), σ = [some (.ref dw), v1, some (.ref Fd), v3, some (.ref Ld), some (.ref x.1), u6, u7, v8] ∧ LateB Ld H g (B.map (·.2)) L Hc ∧ (∀ x ∈ B.take i, ∀ y ∈ B, ∀ z ∈ B, gvn g x.2 y.2 z.2 ∈ L) ∧ ∀ y ∈ B.take j, ∀ z ∈ B, gvn g x.2 y.2 z.2 ∈ L)
      ⟨_, _, L, rfl, I, hb, fun x hx => by simp at hx⟩ (fun i σ Hb _ ⟨_, _, _, _, I, _⟩ => SqL.of (I.but _ _ SL hS.1)) ?_ ?_⟩
    · rintro j v σ Hc hj ⟨u6, u7, L, rfl, I, hb, hc⟩
      obtain ⟨y, ey, ym, yr, rfl⟩ := at_ hj
      refine ⟨_, rfl, Fd, rfl, ⟨_, SqL.of (I.but _ _ SL hS.1)⟩, for_list (K := K) (a := Fd) (xs := B.map fun e => V.ref e.1) (fun l σ Hd => ∃ (u7 : Option V) (L : List (List Str)), σ = [some (.ref dw), v1, some (.ref Fd), v3, some (.ref Ld), some (.ref x.1), some (.ref y.1), u7, v8] ∧ LateB Ld H g (B.map (·.2)) L Hd ∧ (∀ x ∈ B.take i, ∀ y ∈ B, ∀ z ∈ B, gvn g x.2 y.2 z.2 ∈ L) ∧ (∀ y ∈ B.take j, ∀ z ∈ B, gvn g x.2 y.2 z.2 ∈ L) ∧ ∀ z ∈ B.take l, gvn g x.2 y.2 z.2 ∈ L)
        ⟨_, L, rfl, I, hb, hc, fun x hx => by simp at hx⟩ (fun i σ Hb _ ⟨_, _, _, I, _⟩ => SqL.of (I.but _ _ SL hS.1)) ?_ ?_⟩
      · rintro l v σ Hd hl ⟨u7, L, rfl, I, hb, hc, hd⟩
        obtain ⟨z, ez, zm, zr, rfl⟩ := at_ hl
        have hx := hS.2 x xm
        have hy := hS.2 y ym
        have hz := hS.2 z zm
        refine ⟨_, rfl, _, rfl, _, rfl, _, rfl, _, rfl, l3, fun t nt => ?_⟩
        have st := same_new (o := .tup [V.ref x.1, V.ref y.1, V.ref z.1]) nt
        have hw : WayAt (upd Hd t (.tup [.ref x.1, .ref y.1, .ref z.1])) dw ms g := by
          obtain ⟨m, h1, h2⟩ := hway
          exact ⟨m, st _ _ (I.but _ _ nw h1), h2⟩
        refine ⟨dw, t, x.1, y.1, z.1, ms, g, n, x.2, y.2, z.2, rfl, hw, upd_same, st _ _ (I.but _ _ (neT hx) hx), st _ _ (I.but _ _ (neT hy) hy), st _ _ (I.but _ _ (neT hz) hz), (ok _ xr).1, (ok _ yr).1, (ok _ zr).1, n4, (ok _ xr).2, (ok _ yr).2, (ok _ zr).2, fun T H5 nT hT s5 => ?_⟩
        have hL5 := s5 _ _ (st _ _ I.at_)
        have lf := rows_few (I.ok ok hg) I.nd few n4
        refine ⟨Ld, _, rfl, DPut.t (k := kR (gvn g x.2 y.2 z.2)) hL5 (by rw [kR_V]; exact hT) (by rw [DR_len, sizeLine_eq]; omega), ?_⟩
        rw [putDR]
        have up : ∀ r ∈ L, r ∈ addR L (gvn g x.2 y.2 z.2) := fun r hr => addR_mem.mpr (.inl hr)
        refine ⟨_, addR L (gvn g x.2 y.2 z.2), rfl, ⟨upd_same, addR_nodup I.nd, fun r hr => ?_, fun b o nb e => (upd_ne nb).trans (s5 _ _ (st _ _ (I.but _ _ nb e)))⟩, fun a h1 b h2 c h3 => up _ (hb a h1 b h2 c h3), fun b h2 c h3 => up _ (hc b h2 c h3), fun c h3 => ?_⟩
        · rcases addR_mem.mp hr with h | rfl
          · exact I.of r h
          · exact ⟨_, xr, _, yr, _, zr, rfl⟩
        · rw [List.take_add_one, ez] at h3
          rcases List.mem_append.mp h3 with h3 | h3
          · exact up _ (hd c h3)
          · obtain rfl : c = z := by simpa using h3
            exact addR_mem.mpr (.inr rfl)
      · rintro σ Hd ⟨u7, L, rfl, I, hb, hc, hd⟩
        rw [lB, List.take_length] at hd
        refine ⟨_, _, L, rfl, I, hb, fun y' hy => ?_⟩
        rw [List.take_add_one, ey] at hy
        rcases List.mem_append.mp hy with hy | hy
        · exact hc y' hy
        · obtain rfl : y' = y := by simpa using hy
          exact hd
    · rintro σ Hc ⟨u6, u7, L, rfl, I, hb, hc⟩
      rw [lB, List.take_length] at hc
      refine ⟨_, _, _, L, rfl, I, fun x' hx => ?_⟩
      rw [List.take_add_one, ex] at hx
      rcases List.mem_append.mp hx with hx | hx
      · exact hb x' hx
      · obtain rfl : x' = x := by simpa using hx
        exact hc
  · rintro σ Hb ⟨u5, u6, u7, L, rfl, I, hb⟩
    rw [lB, List.take_length] at hb
    refine k L _ _ _ Hb I fun x hx y hy z hz => ?_
    obtain ⟨a, ha, rfl⟩ := List.mem_map.mp hx
    obtain ⟨b, hb', rfl⟩ := List.mem_map.mp hy
    obtain ⟨c, hc, rfl⟩ := List.mem_map.mp hz
    exact hb a ha b hb' c hc
end
end Yt

set_option Elab.async false
set_option linter.all false
set_option maxRecDepth 100000
set_option maxHeartbeats 2000000
namespace Yt
open PySem PySem.Spec PyProof.Rows L2
def lenAt (σ : L2.St) (H : Hp) (i : Nat) : Nat := match σ[i]? with
  | some (some (.ref a)) => (match H a with | some (.lst xs) => xs.length | _ => 0)
  | _ => 0
section
variable {P : Program} {w : World} {K : PySem.W.Frag} {mg : Str → Option Value} {base : Heap} {f : Addr} {fd : FuncData}
def spLPlain : Sp := fun vs H Q _ => ∃ (dw l : Addr) (ms : List Str) (g : Str → Str → Str → Str) (d : Nat) (M : List (Addr × List Str)), vs = [.ref dw, .ref l] ∧ WayAt H dw ms g ∧ (∀ x ∈ ms, ∀ y ∈ ms, ∀ z ∈ ms, g x y z ∈ ms) ∧ MarksOk ms ∧ ms.length ≤ 3 ∧ d ≤ 3 ∧ RowsAt H l M ∧ RowsOk ms (d + 1) (M.map (·.2)) ∧ (M.map (·.2)).Nodup ∧
  ∀ (L : Addr) (N : List (Addr × List Str)) (H' : Hp), H L = none → H' L = some (.lst (N.map fun e => V.ref e.1)) → RowsIn H' d N → Up (N.map (·.2)) → (∀ r ∈ M.map (·.2), r ∈ N.map (·.2)) → ClosedG g (N.map (·.2)) → (∀ W : List (List Str), ClosedG g W → (∀ r ∈ M.map (·.2), r ∈ W) → ∀ r ∈ N.map (·.2), r ∈ W) → Same H H' → Q (.ref L) H'
theorem ok_lplain {fG : Addr} {dG : FuncData} (F : FnP K "_law_plain_closed" sLPlain f fd) (T : Nm mg) (T6 : Nm6 mg) (hso : mg "sorted" = none)
    (GG : FnOk P w K mg base CX0 1 fG dG ["_law_way", "_law_rows"] spLGiven) (bG : Binds K dG ["_law_way", "_law_rows"] []) (kG : PySem.W.keepIn K (.ref fG) = true) (gG : mg "_law_given" = some (.ref fG)) :
    FnOk P w K mg base CX0 2 f fd ["_law_way", "_law_rows"] spLPlain := by
  refine F.ok scPlain (fun vs H Q E h => ?_) (fun cdv A outer s H vs Q E hr h => ?_)
  · obtain ⟨dw, l, ms, g, d, M, rfl, _⟩ := h
    rfl
  · obtain ⟨dw, l, ms, g, d, M, rfl, hway, hg, ok, few, d3, hl, rok, mnd, k⟩ := h
    have hu4 := units4 hr
    have hu := hu_of hr
    refine ⟨_, PSs.nox (pss_cons (ps_asg (pe_tup (pa_cons (pe_callTy call_list_of (by rfl) T6.list (by decide +kernel) (pa_cons (pv 1) pa_nil)) (pa_cons (pe_callTy call_list_of (by rfl) T6.list (by decide +kernel) (pa_cons (pv 1) pa_nil)) pa_nil))) (pg_tup rfl (pgs_cons (pg_name (i := 2) scPlain.nd rfl (Or.inr rfl)) (pgs_cons (pg_name (i := 3) scPlain.nd rfl (Or.inl rfl)) pgs_nil))))
      (pss_cons (ps_while PassesOwn.never (pt_cmpR (op_neD hr.units) (pv 3) (pe_lst pa_nil) (nomark _))
        (pss_cons (ps_set (i := 4) scPlain.nd rfl (Or.inl rfl) pe_dnewT)
        (pss_cons (st_told8 GG bG kG gG (hr.mono (by decide)))
        (pss_cons (ps_lock (ps_setLc (i := 3) (own := [("_law_row_here", 8)]) (g := gName 8) (tt := tTest (tOp (rNInRows K) (tVar 8) (tVar 2))) (te := tVar 8) rfl scPlain.nd rfl rfl (sw_true rfl rfl rfl (by decide +kernel)) (pi_keys (pv 4)) (blkOk_by (own := [("_law_row_here", 8)]) (N := plainN) (sc := defScope sLPlain) (by decide +kernel))
            (fun _ _ _ _ _ => pg_name (i := 8) scPlain.nd rfl (Or.inl rfl)) (fun _ _ _ _ _ => pts_one (pt_cmpR (op_notin_rows hu) (pv 8) (pv 2) (by rfl))) (fun _ _ _ _ _ => pv 8)))
        (pss_one (ps_set (i := 2) scPlain.nd rfl (Or.inr rfl) (pe_op op_cat (pv 2) (pv 3))))))))
      (pss_one (ps_ret (pe_callB (cr_sortList rfl hu4) (by rfl) hso (by decide +kernel) (pa_cons (pv 2) pa_nil)))))), ?_⟩
    have l2 : 2 ≤ sizeLine := by decide
    refine ⟨_, rfl, l, _, rfl, .inl (SqL.of hl.1), fun Fd0 nF => ?_⟩
    have sF := same_new (o := .lst (M.map fun e => V.ref e.1)) nF
    refine ⟨_, rfl, l, _, rfl, .inl (SqL.of (sF _ _ hl.1)), fun Gd0 nG => ⟨l2, fun t nt => ?_⟩⟩
    have sG := same_new (o := .lst (M.map fun e => V.ref e.1)) nG
    have sT := same_new (o := .tup [V.ref Fd0, V.ref Gd0]) nt
    have hF1 := sT _ _ (sG _ _ (upd_same (H := H) (a := Fd0) (o := .lst (M.map fun e => V.ref e.1))))
    have hG1 := sT _ _ (upd_same (H := upd H Fd0 (.lst (M.map fun e => V.ref e.1))) (a := Gd0) (o := .lst (M.map fun e => V.ref e.1)))
    have s01 : Same H (upd (upd (upd H Fd0 (.lst (M.map fun e => V.ref e.1))) Gd0 (.lst (M.map fun e => V.ref e.1))) t (.tup [.ref Fd0, .ref Gd0])) := fun b o e => sT _ _ (sG _ _ (sF _ _ e))
    refine ⟨t, _, rfl, SqT.of upd_same, rfl, _, _, rfl, _, _, rfl, rfl, ?_⟩
    generalize upd (upd (upd H Fd0 (.lst (M.map fun e => V.ref e.1))) Gd0 (.lst (M.map fun e => V.ref e.1))) t (.tup [.ref Fd0, .ref Gd0]) = H1 at hF1 hG1 s01 ⊢
    dsimp only [gName, tSeq]
    refine while_by (fun σ Hc => ∃ (v4 v5 v6 v7 v8 : Option V) (Fd Gd : Addr) (B Gf : List (Addr × List Str)), σ = [some (.ref dw), some (.ref l), some (.ref Fd), some (.ref Gd), v4, v5, v6, v7, v8] ∧ RowsAt Hc Fd B ∧ RowsAt Hc Gd Gf ∧ RowsOk ms (d + 1) (B.map (·.2)) ∧ (B.map (·.2)).Nodup ∧ RowsOk ms (d + 1) (Gf.map (·.2)) ∧ (∀ r ∈ M.map (·.2), r ∈ B.map (·.2)) ∧ (∀ W : List (List Str), ClosedG g W → (∀ r ∈ M.map (·.2), r ∈ W) → ∀ r ∈ B.map (·.2), r ∈ W) ∧ (Gf.map (·.2) = [] → ClosedG g (B.map (·.2))) ∧ Same H Hc)
      (fun σ Hc => 2 * (82 - lenAt σ Hc 2) + min 1 (lenAt σ Hc 3))
      ⟨_, _, _, _, _, Fd0, Gd0, M, M, rfl, ⟨hF1, fun e he => s01 _ _ (hl.2 e he)⟩, ⟨hG1, fun e he => s01 _ _ (hl.2 e he)⟩, rok, mnd, rok, fun r h => h, fun W _ h2 r hr => h2 r hr, (fun e x hx => by rw [e] at hx; exact nomatch hx), s01⟩ ?_ ?_
    · rintro σ Hc ⟨v4, v5, v6, v7, v8, Fd, Gd, B, Gf, rfl, hF, hG, bok, bnd, gok, bs, le, cl, sc⟩
      have lB := rows_few bok bnd few (by omega)
      rw [List.length_map] at lB
      refine ⟨_, rfl, (by show 0 ≤ sizeLine; decide), fun q nq => ?_⟩
      have sq := same_new (o := .lst []) nq
      refine ⟨rowsD (Gf.map (·.2)), rowsD [], .lst (SqL.of (sq _ _ hG.1)) (dp_rows fun e he => sq _ _ (hG.2 e he)), .lst (SqL.of upd_same) .nil, rows_shaped (fun r hr z hz => ok.2.2.2 z ((gok r hr).2 z hz)), rows_shaped (fun r hr => nomatch hr), !decide (Gf.map (·.2) = []), ?_, ?_⟩
      · show V.bl (!PyData.eqvAll _ _) = _
        rw [eqv_rows]
      have hF1 := sq _ _ hF.1
      have hFe : ∀ e ∈ B, (upd Hc q (.lst [])) e.1 = some (.tup (e.2.map V.str)) := fun e he => sq _ _ (hF.2 e he)
      have hGe := sq _ _ hG.1
      have s1 : Same H (upd Hc q (.lst [])) := fun b o e => sq _ _ (sc _ _ e)
      have muC : lenAt [some (.ref dw), some (.ref l), some (.ref Fd), some (.ref Gd), v4, v5, v6, v7, v8] Hc 2 = B.length ∧ lenAt [some (.ref dw), some (.ref l), some (.ref Fd), some (.ref Gd), v4, v5, v6, v7, v8] Hc 3 = Gf.length := by
        constructor
        · show (match Hc Fd with | some (.lst xs) => xs.length | _ => 0) = _
          rw [hF.1]
          exact List.length_map _
        · show (match Hc Gd with | some (.lst xs) => xs.length | _ => 0) = _
          rw [hG.1]
          exact List.length_map _
      generalize upd Hc q (.lst []) = H2 at hF1 hFe hGe s1 ⊢
      by_cases c : Gf.map (·.2) = []
      · rw [decide_eq_true c]
        refine iteF ?_
        refine ⟨_, rfl, Fd, B, d, rfl, SqL.of hF1, ⟨hFe, fun e he => (bok _ (List.mem_map.mpr ⟨e, he, rfl⟩)).1, by omega⟩, bnd, ?_⟩
        intro M' L pm up nL
        have sL := same_new (o := .lst (M'.map fun e => V.ref e.1)) nL
        have mem : ∀ r, r ∈ M'.map (·.2) ↔ r ∈ B.map (·.2) := fun r => (pm.map (·.2)).mem_iff
        have cB := cl c
        exact k L M' _ (none_back s1 nL) upd_same ⟨fun e he => sL _ _ (hFe e (pm.mem_iff.mp he)), fun e he => (bok _ (List.mem_map.mpr ⟨e, pm.mem_iff.mp he, rfl⟩)).1, by rw [pm.length_eq]; omega⟩ up (fun r hr => (mem r).mpr (bs r hr)) (fun x hx y hy z hz => (mem _).mpr (cB x ((mem x).mp hx) y ((mem y).mp hy) z ((mem z).mp hz))) (fun W h1 h2 r hr => le W h1 h2 r ((mem r).mp hr)) fun b o e => sL _ _ (s1 _ _ e)
      · rw [decide_eq_false c]
        refine iteT ?_
        refine fun Ld nLd => ?_
        have sLd := same_new (o := .dT []) nLd
        have hL2 := upd_same (H := H2) (a := Ld) (o := .dT [])
        have s3 : Same H2 (upd H2 Ld (.dT [])) := sLd
        generalize upd H2 Ld (.dT []) = H3 at hL2 s3 ⊢
        have neL : ∀ {b : Addr} {o : HO}, H2 b = some o → b ≠ Ld := fun e => ne_of_none e nLd
        have ndw : dw ≠ Ld := by
          obtain ⟨m, h1, _⟩ := hway.to s1
          exact neL h1
        have s03 : Same H H3 := fun b o e => s3 _ _ (s1 _ _ e)
        refine ⟨_, _, _, _, _, _, dw, Fd, Ld, ms, g, d + 1, B, rfl, hway.to s03, ndw, hg, few, by omega, ⟨s3 _ _ hF1, fun e he => s3 _ _ (hFe e he)⟩, bok, hL2, fun L u5 u6 u7 H4 I thr => ?_⟩
        have Lok := I.ok bok hg
        have lL := rows_few Lok I.nd few (by omega)
        refine ⟨Ld, _, I.at_, trivial, fun od => ?_⟩
        have keep4 : ∀ {b : Addr} {o : HO}, b ≠ Ld → H3 b = some o → (upd H4 Ld (.frz od (.dT (DR L)))) b = some o := fun {b o} nb e => (upd_ne nb).trans (I.but _ _ nb e)
        have hF4 := keep4 (neL hF1) (s3 _ _ hF1)
        have hFe4 : ∀ e ∈ B, (upd H4 Ld (.frz od (.dT (DR L)))) e.1 = some (.tup (e.2.map V.str)) := fun e he => keep4 (neL (hFe e he)) (s3 _ _ (hFe e he))
        refine ⟨_, rfl, Ld, od, rfl, .inr ⟨DR L, upd_same, fun D hDn => ?_⟩⟩
        have nDL : D ≠ Ld := fun z => by
          rw [z, upd_same] at hDn
          cases hDn
        have FD : D ≠ Fd := fun z => by
          rw [z, hF4] at hDn
          cases hDn
        refine lc_it (walk_keysT (d := Ld) (o := od) (kvs := DR L)) (fun j Hx => Built D (upd H4 Ld (.frz od (.dT (DR L)))) ((L.take j).filter fun r => !decide (r ∈ B.map (·.2))) Hx) (Built.first hDn) (fun j Hx _ ⟨_, _, _, _, z⟩ => z _ _ upd_same) ?_ ?_
        · rintro j v Hx H7 hj hBl ⟨rfl, kk, vv, q, ej, rfl, hq⟩
          obtain ⟨r, er, e2⟩ : ∃ r, L[j]? = some r ∧ (kR r, V.bl true) = (kk, vv) := by
            unfold DR at ej
            rw [List.getElem?_map] at ej
            exact Option.map_eq_some_iff.mp ej
          cases e2
          have hq' : H7 q = some (.tup (r.map V.str)) := by
            have hq : H7 q = some (.tup ((kR r).map kV)) := hq
            rw [kR_V] at hq
            exact hq
          obtain ⟨_, _, _, _, sy⟩ := id hBl
          have ef : (L.take (j + 1)).filter (fun r => !decide (r ∈ B.map (·.2))) = (L.take j).filter (fun r => !decide (r ∈ B.map (·.2))) ++ (if r ∈ B.map (·.2) then [] else [r]) := by
            rw [List.take_add_one, er, List.filter_append]
            show _ ++ List.filter _ [r] = _
            by_cases c : r ∈ B.map (·.2)
            · rw [if_pos c, List.filter_cons_of_neg (by simp only [c, decide_true, Bool.not_true]; decide)] <;> rfl
            · rw [if_neg c, List.filter_cons_of_pos (by simp only [c, decide_false, Bool.not_false])] <;> rfl
          refine ⟨rfl, ?_⟩
          refine ⟨_, rfl, _, rfl, q, Fd, r, B, rfl, rfl, hq', sy _ _ hF4, fun e he => sy _ _ (hFe4 e he), _, rfl, ?_⟩
          by_cases c : r ∈ B.map (·.2)
          · rw [decide_eq_true c]
            rw [if_pos c, List.append_nil] at ef
            show (if (!true) = true then _ else _)
            rw [if_neg (by decide), ef]
            exact hBl
          · rw [decide_eq_false c]
            rw [if_neg c] at ef
            show (if (!false) = true then _ else _)
            rw [if_pos (by decide)]
            obtain ⟨acc, b1, b2, b3⟩ := hBl.more hDn (fun _ _ z => z) hq'
            refine ⟨_, rfl, acc, b1, ?_, ?_⟩
            · rw [b2, sizeLine_eq]
              have := List.length_filter_le (fun r => !decide (r ∈ B.map (·.2))) (L.take j)
              rw [List.length_take] at this
              omega
            · rw [ef]
              exact b3
        · rintro Hx ⟨N, q1, q2, q3, q4⟩
          rw [DR_len, List.take_length] at q2
          refine ⟨q4 _ _ upd_same, ?_⟩
          have hD5 : (upd Hx Ld (.dT (DR L))) D = some (.lst (N.map fun e => V.ref e.1)) := (upd_ne nDL).trans q1
          have hN5 : ∀ e ∈ N, (upd Hx Ld (.dT (DR L))) e.1 = some (.tup (e.2.map V.str)) := fun e he => (upd_ne fun z => by
            have h1 := (q3 e he).2
            rw [z, q4 _ _ upd_same] at h1
            cases h1).trans (q3 e he).2
          have hF5 : (upd Hx Ld (.dT (DR L))) Fd = some (.lst (B.map fun e => V.ref e.1)) := (upd_ne (neL hF1)).trans (q4 _ _ hF4)
          have hFe5 : ∀ e ∈ B, (upd Hx Ld (.dT (DR L))) e.1 = some (.tup (e.2.map V.str)) := fun e he => (upd_ne (neL (hFe e he))).trans (q4 _ _ (hFe4 e he))
          have s5 : Same H (upd Hx Ld (.dT (DR L))) := fun b o z => (upd_ne (neL (s1 _ _ z))).trans (q4 _ _ (keep4 (neL (s1 _ _ z)) (s03 _ _ z)))
          generalize upd Hx Ld (.dT (DR L)) = H5 at hD5 hN5 hF5 hFe5 s5 ⊢
          obtain ⟨fs, efs⟩ : ∃ fs, fs = L.filter fun r => !decide (r ∈ B.map (·.2)) := ⟨_, rfl⟩
          rw [← efs] at q2
          have fsL : ∀ r ∈ fs, r ∈ L ∧ r ∉ B.map (·.2) := fun r hr => by
            rw [efs] at hr
            have h := List.mem_filter.mp hr
            exact ⟨h.1, fun z => by rw [decide_eq_true z] at h; exact absurd h.2 (by decide)⟩
          have Lfs : ∀ r ∈ L, r ∉ B.map (·.2) → r ∈ fs := fun r hr nr => by
            rw [efs]
            exact List.mem_filter.mpr ⟨hr, by rw [decide_eq_false nr]; rfl⟩
          have fsok : RowsOk ms (d + 1) fs := fun r hr => Lok r (fsL r hr).1
          have fsnd : fs.Nodup := by
            rw [efs]
            exact I.nd.filter _
          have eA : (B ++ N).map (·.2) = B.map (·.2) ++ fs := by rw [List.map_append, q2]
          have aok : RowsOk ms (d + 1) ((B ++ N).map (·.2)) := fun r hr => by
            rw [eA] at hr
            exact (List.mem_append.mp hr).elim (bok r) (fsok r)
          have and' : ((B ++ N).map (·.2)).Nodup := by
            rw [eA, List.nodup_append]
            exact ⟨bnd, fsnd, fun a ha b hb e => (fsL b hb).2 (by rw [← e]; exact ha)⟩
          have lA := rows_few aok and' few (by omega)
          rw [List.length_map, List.length_append] at lA
          refine ⟨_, rfl, _, rfl, Fd, D, _, _, rfl, rfl, hF5, hD5, by rw [List.length_map, List.length_map, sizeLine_eq]; omega, fun p np => ?_⟩
          have sp := same_new (o := .lst ((B.map fun e => V.ref e.1) ++ N.map fun e => V.ref e.1)) np
          have hp : (upd H5 p (.lst ((B.map fun e => V.ref e.1) ++ N.map fun e => V.ref e.1))) p = some (.lst ((B ++ N).map fun e => V.ref e.1)) := by rw [upd_same, List.map_append]
          have hD6 := sp _ _ hD5
          refine ⟨⟨_, _, _, _, _, p, D, B ++ N, N, rfl, ⟨hp, fun e he => ?_⟩, ⟨hD6, fun e he => sp _ _ (hN5 e he)⟩, aok, and', by rw [q2]; exact fsok, fun r hr => by rw [eA]; exact List.mem_append_left _ (bs r hr), fun W h1 h2 r hr => ?_, fun e0 => ?_, fun b o z => sp _ _ (s5 _ _ z)⟩, ?_⟩
          · exact (List.mem_append.mp he).elim (fun he => sp _ _ (hFe5 e he)) fun he => sp _ _ (hN5 e he)
          · rw [eA] at hr
            rcases List.mem_append.mp hr with hr | hr
            · exact le W h1 h2 r hr
            · obtain ⟨x, hx, y, hy, z, hz, rfl⟩ := I.of r (fsL r hr).1
              exact h1 _ (le W h1 h2 _ hx) _ (le W h1 h2 _ hy) _ (le W h1 h2 _ hz)
          · rw [q2] at e0
            rw [eA, e0, List.append_nil]
            intro x hx y hy z hz
            have h := thr x hx y hy z hz
            by_cases cr : gvn g x y z ∈ B.map (·.2)
            · exact cr
            · have := Lfs _ h cr
              rw [e0] at this
              cases this
          · have m1 : lenAt [some (.ref dw), some (.ref l), some (.ref p), some (.ref D), some (.ref Ld), u5, u6, u7, v8] (upd H5 p (.lst ((B.map fun e => V.ref e.1) ++ N.map fun e => V.ref e.1))) 2 = B.length + N.length := by
              show (match (upd H5 p (.lst ((B.map fun e => V.ref e.1) ++ N.map fun e => V.ref e.1))) p with | some (.lst xs) => xs.length | _ => 0) = _
              rw [upd_same]
              show ((B.map fun e => V.ref e.1) ++ N.map fun e => V.ref e.1).length = _
              rw [List.length_append, List.length_map, List.length_map]
            have m2 : lenAt [some (.ref dw), some (.ref l), some (.ref p), some (.ref D), some (.ref Ld), u5, u6, u7, v8] (upd H5 p (.lst ((B.map fun e => V.ref e.1) ++ N.map fun e => V.ref e.1))) 3 = N.length := by
              show (match (upd H5 p (.lst ((B.map fun e => V.ref e.1) ++ N.map fun e => V.ref e.1))) D with | some (.lst xs) => xs.length | _ => 0) = _
              rw [hD6]
              exact List.length_map _
            have g1 : 0 < Gf.length := by
              rw [List.length_pos_iff]
              intro z
              exact c (by rw [z] <;> rfl)
            show 2 * (82 - lenAt [some (.ref dw), some (.ref l), some (.ref p), some (.ref D), some (.ref Ld), u5, u6, u7, v8] _ 2) + min 1 (lenAt [some (.ref dw), some (.ref l), some (.ref p), some (.ref D), some (.ref Ld), u5, u6, u7, v8] _ 3) < 2 * (82 - lenAt _ Hc 2) + min 1 (lenAt _ Hc 3)
            rw [m1, m2, muC.1, muC.2]
            omega
    · rintro σ Hc Q1 Q2 imp ⟨x, ex, le0, h⟩
      refine ⟨x, ex, le0, fun p np => ?_⟩
      obtain ⟨d1, d2, h1, h2, h3, h4, k1, e5, q⟩ := h p np
      exact ⟨d1, d2, h1, h2, h3, h4, k1, e5, imp _ _ q⟩
end
end Yt

set_option Elab.async false
set_option linter.all false
set_option maxRecDepth 100000
set_option maxHeartbeats 2000000
namespace Yt
open PySem PySem.Spec PyProof.Rows L2
/-- a heap without what stands at p -/
def hid (p : Addr) (H : Hp) : Hp := fun a => if a = p then none else H a
theorem hid_same (p : Addr) (H : Hp) : Same (hid p H) H := fun b o e => by
  unfold hid at e
  by_cases c : b = p
  · rw [if_pos c] at e
    cases e
  · rwa [if_neg c] at e
theorem hid_at {p a : Addr} {H : Hp} {o : HO} (n : a ≠ p) (e : H a = some o) : hid p H a = some o := by
  unfold hid
  rwa [if_neg n]
theorem But.hid {p : Addr} {H H' : Hp} (b : But p H H') : Same (hid p H) (hid p H') := fun c o e => by
  have n : c ≠ p := fun z => by
    unfold Yt.hid at e
    rw [if_pos z] at e
    cases e
  exact hid_at n (b c o n (hid_same p H c o e))
theorem Same.hid {p : Addr} {H H' : Hp} (s : Same H H') : Same (hid p H) (hid p H') := But.hid (Same.but s)
theorem hid_off {p : Addr} {H : Hp} : hid p H p = none := if_pos rfl
/-- data of a depth, no list of it long, all words laid -/
def ValD (H : Hp) (n : Nat) (v : V) : Prop := ∃ D, Dv H v D ∧ D.canLay0 = true ∧ D.depth ≤ n ∧ narrow D = true
theorem ValD.to {H H' : Hp} {n : Nat} {v : V} (h : ValD H n v) (s : Same H H') : ValD H' n v := by
  obtain ⟨D, h1, h2⟩ := h
  exact ⟨D, Dv.to s D h1, h2⟩
theorem ValD.le {H : Hp} {n m : Nat} {v : V} (h : ValD H n v) (l : n ≤ m) : ValD H m v := by
  obtain ⟨D, h1, h2, h3, h4⟩ := h
  exact ⟨D, h1, h2, by omega, h4⟩
theorem ValD.val {H : Hp} {v : V} (h : ValD H 3 v) : Val H v := by
  obtain ⟨D, h1, h2, h3, h4⟩ := h
  refine .inl ⟨D, h1, ?_, h3, h4⟩
  unfold SeqAt.shaped
  rw [h2, decide_eq_true (by omega)] <;> rfl
theorem ValD.all {H : Hp} {n : Nat} : ∀ {xs : List V}, (∀ x ∈ xs, ValD H n x) → ∃ ds, DvAll H xs ds ∧ PyData.canLayAll0 ds = true ∧ PyData.depthAll ds ≤ n ∧ narrowAll ds = true
  | [], _ => ⟨[], .nil, rfl, Nat.zero_le _, rfl⟩
  | x :: xs, h => by
    obtain ⟨ds, h1, h2, h3, h4⟩ := ValD.all (xs := xs) fun y hy => h y (List.mem_cons_of_mem _ hy)
    obtain ⟨D, k1, k2, k3, k4⟩ := h x (List.mem_cons_self ..)
    exact ⟨D :: ds, .cons k1 h1, by rw [PyData.canLayAll0, k2, h2] <;> rfl, by rw [PyData.depthAll]; omega, by rw [narrowAll, k4, h4] <;> rfl⟩
theorem ValD.lst {H : Hp} {n : Nat} {a : Addr} {xs : List V} (e : H a = some (.lst xs)) (l : xs.length ≤ 1000) (h : ∀ x ∈ xs, ValD H n x) : ValD H (n + 1) (.ref a) := by
  obtain ⟨ds, h1, h2, h3, h4⟩ := ValD.all h
  exact ⟨.list ds, .lst e h1, by rw [PyData.canLay0]; exact h2, by rw [PyData.depth]; omega, by rw [narrow, h4, decide_eq_true (by rw [← h1.len]; exact l)] <;> rfl⟩
theorem ValD.tup {H : Hp} {n : Nat} {a : Addr} {xs : List V} (e : H a = some (.tup xs)) (l : xs.length ≤ 1000) (h : ∀ x ∈ xs, ValD H n x) : ValD H (n + 1) (.ref a) := by
  obtain ⟨ds, h1, h2, h3, h4⟩ := ValD.all h
  exact ⟨.tuple ds, .tup e h1, by rw [PyData.canLay0]; exact h2, by rw [PyData.depth]; omega, by rw [narrow, h4, decide_eq_true (by rw [← h1.len]; exact l)] <;> rfl⟩
theorem ValD.non {H : Hp} {n : Nat} : ValD H n .non := ⟨.none, .non, rfl, Nat.zero_le _, rfl⟩
theorem ValD.int {H : Hp} {n : Nat} (i : Int) : ValD H n (.int i) := ⟨.int i, .int i, rfl, Nat.zero_le _, rfl⟩
theorem ValD.bl {H : Hp} {n : Nat} (b : Bool) : ValD H n (.bl b) := ⟨.bool b, .bl b, rfl, Nat.zero_le _, rfl⟩
theorem ValD.str {H : Hp} {n : Nat} {z : Str} (h : PyData.strOk z = true) : ValD H n (.str z) := ⟨.str z, .str z, by rw [PyData.canLay0]; exact h, Nat.zero_le _, rfl⟩
theorem ValD.words {H : Hp} {n : Nat} {r : List Str} (h : ∀ z ∈ r, WordOk z) : ∀ x ∈ r.map V.str, ValD H n x := fun x hx => by
  obtain ⟨z, hz, rfl⟩ := List.mem_map.mp hx
  exact ValD.str (word_str (h z hz))
theorem ValD.row {H : Hp} {n : Nat} {a : Addr} {r : List Str} (e : H a = some (.tup (r.map V.str))) (l : r.length ≤ 1000) (h : ∀ z ∈ r, WordOk z) : ValD H (n + 1) (.ref a) := ValD.tup e (by rw [List.length_map]; exact l) (ValD.words h)
/-- what stands while a table and a way are looked at; G is the heap without the purse -/
structure KS (C : Addr) (G : Hp) (A pt L dw : Addr) (ms : List Str) (d : Nat) (M : List (Addr × List Str)) (g : Str → Str → Str → Str) (m : List (List Key × V)) : Prop where
  a : G A = some (.lst (ms.map V.str))
  ok : MarksOk ms
  few : ms.length ≤ 3
  d3 : d ≤ 2
  t : TableAt C G pt ms d (M.map (·.2))
  l : RowsAt G L M
  rok : RowsOk ms (d + 1) (M.map (·.2))
  lM : M.length ≤ 3
  w : WayIn G dw ms m
  v : ∀ x ∈ ms, ∀ y ∈ ms, ∀ z ∈ ms, valV m [Sum.inr x, Sum.inr y, Sum.inr z] = some (.str (g x y z))
section
variable {C : Addr} {G G' : Hp} {A pt L dw : Addr} {ms : List Str} {d : Nat} {M : List (Addr × List Str)} {g : Str → Str → Str → Str} {m : List (List Key × V)}
theorem KS.to (k : KS C G A pt L dw ms d M g m) (s : Same G G') : KS C G' A pt L dw ms d M g m := ⟨s _ _ k.a, k.ok, k.few, k.d3, k.t.to s, k.l.to s, k.rok, k.lM, k.w.to s, k.v⟩
theorem KS.way (k : KS C G A pt L dw ms d M g m) : WayOk G dw ms g := ⟨m, k.w, k.v⟩
theorem KS.len (k : KS C G A pt L dw ms d M g m) {e : Addr × List Str} (h : e ∈ M) : e.2.length = d + 1 ∧ ∀ z ∈ e.2, z ∈ ms := k.rok _ (List.mem_map.mpr ⟨e, h, rfl⟩)
theorem KS.wrd (k : KS C G A pt L dw ms d M g m) : ∀ r ∈ M.map (·.2), ∀ z ∈ r, WordOk z := fun r hr z hz => k.ok.2.2.2 z ((k.rok r hr).2 z hz)
theorem KS.row (k : KS C G A pt L dw ms d M g m) {n : Nat} {e : Addr × List Str} (h : e ∈ M) : ValD G (n + 1) (.ref e.1) :=
  ValD.row (k.l.2 e h) (by have := (k.len h).1; have := k.d3; omega) (k.wrd _ (List.mem_map.mpr ⟨e, h, rfl⟩))
theorem KS.back (k : KS C G A pt L dw ms d M g m) {r : List Str} (h : r ∈ M.map (·.2)) : ∃ e ∈ M, e.2 = r := List.mem_map.mp h
end
/-- a value that the law asks about, and the heap without the purse -/
theorem Val.un {p : Addr} {H : Hp} {v : V} (h : Val (hid p H) v) : Val H v := h.to (hid_same p H)
abbrev krN : List Str := ["_law_purse_here", "_law_marks_here", "_law_table", "_law_rows", "_law_way", "_law_width", "_law_due", "_law_lent", "_law_told", "_law_late", "_law_values", "_law_row_here", "_law_strange", "_law_value", "_law_noted", "_law_right", "_law_turn"]
abbrev sLKept : Stmt := top 64
theorem scKept : FnScope krN ["_law_purse_here", "_law_marks_here", "_law_table", "_law_rows", "_law_way"] (defScope sLKept) := ⟨rfl, rfl, rfl, by decide +kernel, rfl, by decide +kernel, by decide +kernel⟩
abbrev kSt (i : Nat) : Stmt := (defBody sLKept).getD i noSt
abbrev KX (P : Program) (w : World) (K : PySem.W.Frag) (mg : Str → Option Value) (base : Heap) (f : Addr) (cdv : Value) (A : Around) (outer : List Env) (s : Shared) (H : Hp) (E : XK) : Cx := (cxOf CX0 P w K mg base krN "_law_kept_right" (defScope sLKept) f cdv A outer s H E).nox
abbrev RoomK (A : Around) (s : Shared) (f : Addr) (cdv : Value) : Prop := Room 8 (A.deeper (envOfC "_law_kept_right" (defScope sLKept) s.heap.objs.size f cdv))
/-- a def as it stands: it is called by its name and keeps its promise -/
structure Cal (P : Program) (w : World) (K : PySem.W.Frag) (mg : Str → Option Value) (base : Heap) (x : Str) (k : Nat) (ps : List Str) (sp : Sp) : Prop where
  ex : ∃ f fd, FnOk P w K mg base CX0 k f fd ps sp ∧ Binds K fd ps [] ∧ PySem.W.keepIn K (.ref f) = true ∧ mg x = some (.ref f)
/-- what the law's look at a table calls -/
structure CalK (P : Program) (w : World) (K : PySem.W.Frag) (mg : Str → Option Value) (base : Heap) (C : Addr) : Prop where
  tm : TM P w K mg base C
  one : Cal P w K mg base "_law_one_of" 3 ["_law_purse_here", "_law_some"] (spOne K)
  every : Cal P w K mg base "_law_every" 1 ["_law_marks_here", "_law_width"] spLEvery
  given : Cal P w K mg base "_law_given" 1 ["_law_way", "_law_rows"] spLGiven
  broken : Cal P w K mg base "_law_broken" 2 ["_law_way", "_law_rows"] spLBroken
  is3 : Cal P w K mg base "_law_is_three_rows" 1 ["_law_rows", "_law_value"] spLIs3
  plain : Cal P w K mg base "_law_plain_closed" 2 ["_law_way", "_law_rows"] spLPlain
  same : Cal P w K mg base "_law_same" 4 ["_law_thing"] (spSame 4)
  ex : Cal P w K mg base "_law_exact" 5 ["_law_mine", "_law_theirs"] (spExact K 5)
  is : Cal P w K mg base "_law_is_table" 5 ["_law_table", "_law_marks_here", "_law_width", "_law_rows"] (spLIs C)
  why : Cal P w K mg base "why_broken" 4 ["table", "way"] (spWhy C)
  isWhy : Cal P w K mg base "is_why_broken" 4 ["table", "way", "value"] (spIsWhy C)
  keeps : Cal P w K mg base "keeps" 5 ["table", "way"] (spKeeps C)
  closed : Cal P w K mg base "closed_by" 6 ["table", "way"] (spClosedBy C)
end Yt

set_option Elab.async false
set_option linter.all false
set_option maxRecDepth 100000
set_option maxHeartbeats 2000000
namespace Yt
open PySem PySem.Spec PyProof.Rows L2
theorem valV_mem : ∀ {m : List (List Key × V)} {k : List Key} {v : V}, valV m k = some v → (k, v) ∈ m
  | [], _, _, h => by cases h
  | (k0, v0) :: m, k, v, h => by
    by_cases c : k0 = k
    · rw [valV_pos (p := (k0, v0)) c] at h
      cases h
      rw [← c]
      exact List.mem_cons_self ..
    · rw [valV_neg (p := (k0, v0)) c] at h
      exact List.mem_cons_of_mem _ (valV_mem h)
theorem valV_rev {m : List (List Key × V)} (nd : (m.map (·.1)).Nodup) {k : List Key} {v : V} (h : valV m k = some v) : valV m.reverse k = some v := by
  obtain ⟨j, ej⟩ := List.mem_iff_getElem?.mp (List.mem_reverse.mpr (valV_mem h))
  exact valV_at (by rw [List.map_reverse]; exact ((List.reverse_perm _).nodup_iff.mpr nd)) ej
theorem WayIn.nodup {H : Hp} {d : Addr} {ms : List Str} {m : List (List Key × V)} (h : WayIn H d ms m) (hn : ms.Nodup) : (m.map (·.1)).Nodup := h.2.1.nodup_iff.mpr (growN_nodup hn 3)
theorem WayIn.rev {H : Hp} {d : Addr} {ms : List Str} {m : List (List Key × V)} (h : (m.map (·.1)).Perm (growN ms 3) ∧ ∀ e ∈ m, ∃ z ∈ ms, e.2 = V.str z) (e : H d = some (.dT m.reverse)) : WayIn H d ms m.reverse :=
  ⟨e, by rw [List.map_reverse]; exact (List.reverse_perm _).trans h.1, fun x hx => h.2 x (List.mem_reverse.mp hx)⟩
/-- the pairs of a way, their keys' addresses beside them -/
theorem items_out {H H' : Hp} {ts : List Addr} {m : List (List Key × V)} (h : Paired (fun (t : Addr) (q : List Key × V) => H t = none ∧ ∃ b, H b = some (.tup (q.1.map kV)) ∧ H' t = some (.tup [.ref b, q.2])) ts m) :
    ∃ E : List (Addr × Addr × List Key × V), E.map (·.1) = ts ∧ E.map (fun e => e.2.2) = m ∧ ∀ e ∈ E, H e.2.1 = some (.tup (e.2.2.1.map kV)) ∧ H' e.1 = some (.tup [.ref e.2.1, e.2.2.2]) := by
  induction h with
  | nil => exact ⟨[], rfl, rfl, fun e he => nomatch he⟩
  | @cons t q ts m r _ ih =>
    obtain ⟨E, e1, e2, e3⟩ := ih
    obtain ⟨_, b, h1, h2⟩ := r
    refine ⟨(t, b, q) :: E, by rw [List.map_cons, e1], by rw [List.map_cons, e2], fun e he => ?_⟩
    rcases List.mem_cons.mp he with rfl | he
    · exact ⟨h1, h2⟩
    · exact e3 e he
theorem purse_off {H : Hp} {p D : Addr} {f : Nat} (h : PurseAt H p f) (n : H D = none) : D ≠ p := h.ne n
section
variable {P : Program} {w : World} {K : PySem.W.Frag} {mg : Str → Option Value} {base : Heap} {f : Addr} {fd : FuncData} {C : Addr} {cdv : Value} {A0 : Around} {outer : List Env} {s0 : Shared} {H0 : Hp} {E : XK}
variable {p A pt L dw : Addr} {ms : List Str} {d : Nat} {M : List (Addr × List Str)} {g : Str → Str → Str → Str} {m : List (List Key × V)} {fu : Nat}
theorem st_k0 (Cs : CalK P w K mg base C) (T : Nm mg) (T6 : Nm6 mg) (hr : RoomK A0 s0 f cdv) : PS (KX P w K mg base f cdv A0 outer s0 H0 E) (kSt 0)
    (fun D σ H => ∃ (u5 u6 u7 u8 u9 u10 u11 u12 u13 u14 u15 u16 : Option V), σ = [some (.ref p), some (.ref A), some (.ref pt), some (.ref L), some (.ref dw), u5, u6, u7, u8, u9, u10, u11, u12, u13, u14, u15, u16] ∧ PurseAt H p fu ∧ KS C (hid p H) A pt L dw ms d M g m ∧
      ∀ (u : V) (dl : Addr) (H' : Hp), (u = .non ↔ ClosedG g (M.map (·.2))) → dl ≠ p → H' dl = some (.dT m.reverse) → Same H H' → D.nx [some (.ref p), some (.ref A), some (.ref pt), some (.ref L), some (.ref dw), some (.int ((d + 1 : Nat) : Int)), some u, some (.ref dl), u8, u9, u10, u11, u12, u13, u14, u15, u16] H') := by
  obtain ⟨fW, dW, GW, bW, mW⟩ := Cs.tm.width
  obtain ⟨fB, dB, GB, bB, kB, gB⟩ := Cs.broken.ex
  have TT := Cs.tm.tc
  have hu := hu_of hr
  have hu4 := units4 hr
  refine pstW (ps_par3 (i := 5) (j := 6) (l := 7) (by rfl) scKept.nd rfl rfl rfl (by decide) (by decide) (by decide) rfl rfl rfl (pa_cons (pe_meth0 (pv 2) TT.cl mW GW (hr.mono (by decide)) bW .nil pass0) (pa_cons (pe_call GB (hr.mono (by decide)) rfl gB kB bB .nil pass0 (pa_cons (pv 4) (pa_cons (pv 3) pa_nil)))
      (pa_cons (pe_callTy (call_dictPT rfl (units_le hu4 (by decide))) (by rfl) T6.dict (by decide +kernel) (pa_cons (pe_revL (pe_listItemsT rfl (pv 4) (by rfl) T6.list (by decide +kernel))) pa_nil)) pa_nil))) (by rfl)) fun D σ H h => ?_
  obtain ⟨u5, u6, u7, u8, u9, u10, u11, u12, u13, u14, u15, u16, rfl, hP, hK, k⟩ := h
  have ks := hK.to (hid_same p H)
  obtain ⟨dx, A1, R1, M1, g1, _⟩ := id ks.t
  refine ⟨_, rfl, pt, dx, _, rfl, g1, no_attr (by decide +kernel), pt, ms, d, _, rfl, ks.t, ?_⟩
  have rest : ∀ (u : V) (H1 : Hp), (u = .non ↔ ClosedG g (M.map (·.2))) → Same H H1 → ∀ (H' : Hp) (q : Addr) (ts : List Addr), Same H1 H' → H1 q = none → H' q = some (.lst (ts.map V.ref)) → Paired (fun (t : Addr) (q : List Key × V) => H1 t = none ∧ ∃ b, H1 b = some (.tup (q.1.map kV)) ∧ H' t = some (.tup [.ref b, q.2])) ts m →
      ∃ (a : Addr) (xs : List V), (V.ref q) = .ref a ∧ SqL K H' a xs ∧ ∀ r, H' r = none → ∃ (a : Addr) (ps : List Addr) (ks : List (Addr × List Key × V)), [V.ref r] = [.ref a] ∧ SqL K (upd H' r (.lst xs.reverse)) a (ps.map V.ref) ∧ Paired (PairT K (upd H' r (.lst xs.reverse))) ps ks ∧
        ∀ t, (upd H' r (.lst xs.reverse)) t = none → D.nx [some (.ref p), some (.ref A), some (.ref pt), some (.ref L), some (.ref dw), some (.int ((d + 1 : Nat) : Int)), some u, some (.ref t), u8, u9, u10, u11, u12, u13, u14, u15, u16] (upd (upd H' r (.lst xs.reverse)) t (.dT (mergeT [] (ks.map (·.2))))) := by
    intro u H1 hu0 s1 H2 q ts s2 nq hq pr
    obtain ⟨E, e1, e2, e3⟩ := items_out pr
    refine ⟨q, _, rfl, SqL.of hq, fun r nr => ?_⟩
    have sr := same_new (o := .lst (ts.map V.ref).reverse) nr
    refine ⟨r, E.reverse.map (·.1), E.reverse.map (·.2), rfl, SqL.of (by rw [upd_same, List.map_reverse, List.map_reverse, e1]), ?_, fun t nt => ?_⟩
    · refine paired_maps fun e he => ?_
      have he := e3 e (List.mem_reverse.mp he)
      exact ⟨SqT.of (sr _ _ he.2), sr _ _ (s2 _ _ he.1)⟩
    · have em : mergeT [] ((E.reverse.map (·.2)).map (·.2)) = m.reverse := by
        rw [List.map_map, List.map_reverse, show (E.map ((fun e => e.2) ∘ fun e => e.2)) = m from e2]
        rw [mergeT_unlike _ [] (by rw [List.nil_append, List.map_reverse]; exact (List.reverse_perm _).nodup_iff.mpr (hK.w.nodup hK.ok.2.2.1.nodup)), List.nil_append]
      rw [em]
      have st := same_new (o := .dT m.reverse) nt
      have s01 : Same H (upd H2 r (.lst (ts.map V.ref).reverse)) := fun b o e => sr _ _ (s2 _ _ (s1 _ _ e))
      exact k u t _ hu0 (hP.ne (none_back s01 nt)) upd_same fun b o e => st _ _ (s01 _ _ e)
  refine ⟨_, rfl, _, rfl, dw, L, ms, g, d + 1, M, rfl, ks.way.at_, ks.l, ks.rok, by have := ks.d3; omega, fun cl H1 s1 => ?_, fun x hx y hy z hz nc T H1 nT hT s1 => ?_⟩
  · refine ⟨_, rfl, dw, m, rfl, s1 _ _ ks.w.1, fun H2 q ts s2 nq hq pr => ?_⟩
    obtain ⟨a, xs, w1, w2, w3⟩ := rest .non H1 ⟨fun _ => cl, fun _ => rfl⟩ s1 H2 q ts s2 nq hq pr
    refine ⟨a, xs, w1, w2, fun r nr => ?_⟩
    obtain ⟨a', ps, es, v1, v2, v3, v4⟩ := w3 r nr
    exact ⟨a', ps, es, v1, v2, v3, fun t nt => ⟨_, _, _, rfl, v4 t nt⟩⟩
  · refine ⟨_, rfl, dw, m, rfl, s1 _ _ ks.w.1, fun H2 q ts s2 nq hq pr => ?_⟩
    obtain ⟨a, xs, w1, w2, w3⟩ := rest (.ref T) H1 ⟨(fun z => nomatch z), fun cl => absurd (cl _ (List.mem_map.mpr ⟨x, hx, rfl⟩) _ (List.mem_map.mpr ⟨y, hy, rfl⟩) _ (List.mem_map.mpr ⟨z, hz, rfl⟩)) nc⟩ s1 H2 q ts s2 nq hq pr
    refine ⟨a, xs, w1, w2, fun r nr => ?_⟩
    obtain ⟨a', ps, es, v1, v2, v3, v4⟩ := w3 r nr
    exact ⟨a', ps, es, v1, v2, v3, fun t nt => ⟨_, _, _, rfl, v4 t nt⟩⟩
end
end Yt

set_option Elab.async false
set_option linter.all false
set_option maxRecDepth 100000
set_option maxHeartbeats 2000000
namespace Yt
open PySem PySem.Spec PyProof.Rows L2
/-- an item of a way, as data -/
def qD : List Key × V → PyData
  | ([.inr x, .inr y, .inr z], .str u) => .tuple [.tuple [.str x, .str y, .str z], .str u]
  | _ => .none
def QOk (q : List Key × V) : Prop := ∃ x y z u, q = ([Sum.inr x, Sum.inr y, Sum.inr z], V.str u) ∧ WordOk x ∧ WordOk y ∧ WordOk z ∧ WordOk u
theorem QOk.lay {q : List Key × V} (h : QOk q) : (qD q).canLay0 = true := by
  obtain ⟨x, y, z, u, rfl, h1, h2, h3, h4⟩ := h
  simp only [qD, PyData.canLay0, PyData.canLayAll0, word_str h1, word_str h2, word_str h3, word_str h4, Bool.and_self]
theorem QOk.depth {q : List Key × V} (h : QOk q) : (qD q).depth = 2 := by
  obtain ⟨x, y, z, u, rfl, h1, h2, h3, h4⟩ := h
  simp [qD, PyData.depth, PyData.depthAll]
theorem qs_lay : ∀ {l : List (List Key × V)}, (∀ q ∈ l, QOk q) → PyData.canLayAll0 (l.map qD) = true ∧ PyData.depthAll (l.map qD) ≤ 2
  | [], _ => ⟨rfl, Nat.zero_le _⟩
  | q :: l, h => by
    obtain ⟨h1, h2⟩ := qs_lay (l := l) fun x hx => h x (List.mem_cons_of_mem _ hx)
    have hq := h q (List.mem_cons_self ..)
    rw [List.map_cons, PyData.canLayAll0, PyData.depthAll, hq.lay, h1, hq.depth]
    exact ⟨rfl, by omega⟩
theorem qs_shaped {l : List (List Key × V)} (h : ∀ q ∈ l, QOk q) : SeqAt.shaped (.list (l.map qD)) = true := by
  obtain ⟨h1, h2⟩ := qs_lay h
  unfold SeqAt.shaped
  rw [PyData.canLay0, h1, PyData.depth, decide_eq_true (by omega)] <;> rfl
theorem dp_items {K : PySem.W.Frag} {H : Hp} : ∀ {E : List (Addr × Addr × List Key × V)}, (∀ e ∈ E, H e.2.1 = some (.tup (e.2.2.1.map kV)) ∧ H e.1 = some (.tup [.ref e.2.1, e.2.2.2])) → (∀ e ∈ E, QOk e.2.2) → DpAll K H (E.map fun e => V.ref e.1) ((E.map fun e => e.2.2).map qD)
  | [], _, _ => .nil
  | e :: E, h, ok => by
    have ih := dp_items (K := K) (E := E) (fun x hx => h x (List.mem_cons_of_mem _ hx)) fun x hx => ok x (List.mem_cons_of_mem _ hx)
    obtain ⟨h1, h2⟩ := h e (List.mem_cons_self ..)
    obtain ⟨x, y, z, u, eq, _⟩ := ok e (List.mem_cons_self ..)
    rw [eq] at h1 h2
    refine .cons ?_ ih
    show Dp K H (.ref e.1) (qD e.2.2)
    rw [eq]
    exact .tup (SqT.of h2) (.cons (.tup (SqT.of h1) (.cons (.str x) (.cons (.str y) (.cons (.str z) .nil)))) (.cons (.str u) .nil))
section
variable {C : Addr} {G : Hp} {A pt L dw : Addr} {ms : List Str} {d : Nat} {M : List (Addr × List Str)} {g : Str → Str → Str → Str} {m : List (List Key × V)}
theorem KS.q (k : KS C G A pt L dw ms d M g m) : ∀ q ∈ m, QOk q := fun q hq => by
  have hk : q.1 ∈ growN ms 3 := k.w.2.1.mem_iff.mp (List.mem_map.mpr ⟨q, hq, rfl⟩)
  obtain ⟨x, y, z, hx, hy, hz, e⟩ := grow3_form hk
  obtain ⟨u, hu, e2⟩ := k.w.2.2 q hq
  exact ⟨x, y, z, u, by rw [← e, ← e2], k.ok.2.2.2 x hx, k.ok.2.2.2 y hy, k.ok.2.2.2 z hz, k.ok.2.2.2 u hu⟩
theorem KS.lent (k : KS C G A pt L dw ms d M g m) {dl : Addr} (e : G dl = some (.dT m.reverse)) : WayOk G dl ms g :=
  ⟨m.reverse, WayIn.rev k.w.2 e, fun x hx y hy z hz => valV_rev (k.w.nodup k.ok.2.2.1.nodup) (k.v x hx y hy z hz)⟩
end
section
variable {P : Program} {w : World} {K : PySem.W.Frag} {mg : Str → Option Value} {base : Heap} {f : Addr} {fd : FuncData} {C : Addr} {cdv : Value} {A0 : Around} {outer : List Env} {s0 : Shared} {H0 : Hp} {E : XK}
variable {p A pt L dw : Addr} {ms : List Str} {d : Nat} {M : List (Addr × List Str)} {g : Str → Str → Str → Str} {m : List (List Key × V)} {fu : Nat}
open Classical in
theorem st_k2 (Cs : CalK P w K mg base C) (T : Nm mg) (T6 : Nm6 mg) (hr : RoomK A0 s0 f cdv) : PS (KX P w K mg base f cdv A0 outer s0 H0 E) (kSt 2)
    (fun D σ H => ∃ (u5 u9 u10 u11 u12 u13 u14 u15 u16 : Option V) (u6 u8 : V) (dl : Addr), σ = [some (.ref p), some (.ref A), some (.ref pt), some (.ref L), some (.ref dw), u5, some u6, some (.ref dl), some u8, u9, u10, u11, u12, u13, u14, u15, u16] ∧ KS C (hid p H) A pt L dw ms d M g m ∧ (u6 = .non ↔ ClosedG g (M.map (·.2))) ∧ (u8 = .non ↔ ClosedG g (M.map (·.2))) ∧ H dl = some (.dT m.reverse) ∧
      ∀ (H' : Hp), Same H H' → D.nx σ H') := by
  obtain ⟨fK, dK, GK, bK, kK, gK⟩ := Cs.keeps.ex
  obtain ⟨fX, dX, GX, bX, kX, gX⟩ := Cs.ex.ex
  have TT := Cs.tm.tc
  have hu := hu_of hr
  have hu4 := units4 hr
  refine pstW (ps_if (PW.pt (pw_or (pt_not (pt_val (pe_call GX (hr.mono (by decide)) rfl gX kX bX .nil pass0 (pa_cons (pe_lst (pa_cons (pe_call GK (hr.mono (by decide)) rfl gK kK bK .nil pass0 (pa_cons (pv 2) (pa_cons (pv 7) pa_nil))) (pa_cons (pe_cmpR op_isN (pv 8) pe_non (nomark _)) pa_nil)))
      (pa_cons (pe_lst (pa_cons (pe_cmpR op_isN (pv 6) pe_non (nomark _)) (pa_cons (pe_cmpR op_isN (pv 6) pe_non (nomark _)) pa_nil))) pa_nil)))))
      (pw_or1 (pt_cmpR (op_neD hr.units) (pe_listItemsT rfl (pv 7) (by rfl) T6.list (by decide +kernel)) (pe_revL (pe_listItemsT rfl (pv 4) (by rfl) T6.list (by decide +kernel))) (nomark _)))))
    (pss_one (ps_ret pe_bl)) pss_nil) fun D σ H h => ?_
  obtain ⟨u5, u9, u10, u11, u12, u13, u14, u15, u16, u6, u8, dl, rfl, hK, e6, e8, hdl, k⟩ := h
  have ks := hK.to (hid_same p H)
  have l2 : 2 ≤ sizeLine := by decide
  have h1000 : (2 : Nat) ≤ 1000 := by decide
  refine ⟨_, rfl, _, rfl, pt, dl, ms, d, _, g, decide (u6 = .non), rfl, ks.t, ks.ok, by have := ks.d3; omega, by rw [List.length_map]; have := ks.lM; omega, ks.rok, ks.lent hdl, by rw [decide_eq_true_iff]; exact e6, fun H1 s1 => ?_⟩
  have e68 : decide (u8 = .non) = decide (u6 = .non) := by
    rw [decide_eq_decide, e6, e8]
  refine ⟨_, rfl, rfl, l2, fun q1 n1 => ?_⟩
  have sq1 := same_new (o := .lst [V.bl (decide (u6 = .non)), V.bl (decide (u8 = .non))]) n1
  have hq1 := upd_same (H := H1) (a := q1) (o := .lst [V.bl (decide (u6 = .non)), V.bl (decide (u8 = .non))])
  generalize upd H1 q1 (.lst [V.bl (decide (u6 = .non)), V.bl (decide (u8 = .non))]) = H2 at sq1 hq1 ⊢
  refine ⟨_, rfl, rfl, _, rfl, rfl, l2, fun q2 n2 => ?_⟩
  have sq2 := same_new (o := .lst [V.bl (decide (u6 = .non)), V.bl (decide (u6 = .non))]) n2
  have hq2 := upd_same (H := H2) (a := q2) (o := .lst [V.bl (decide (u6 = .non)), V.bl (decide (u6 = .non))])
  generalize upd H2 q2 (.lst [V.bl (decide (u6 = .non)), V.bl (decide (u6 = .non))]) = H3 at sq2 hq2 ⊢
  refine ⟨[], _, _, rfl, .inr (.inl ⟨q1, q2, _, _, rfl, rfl, by simp, by simp, sq2 _ _ hq1, hq2, .cons (Ex.leaf rfl) (.cons (by rw [e68]; exact Ex.leaf rfl) .nil), h1000⟩), fun H4 s4 => ⟨true, rfl, ?_⟩⟩
  refine iteF ?_
  have s04 : Same H H4 := fun b o e => s4 _ _ (sq2 _ _ (sq1 _ _ (s1 _ _ e)))
  refine ⟨_, rfl, dl, _, rfl, s04 _ _ hdl, fun H5 r ts s5 nr hr1 pr => ?_⟩
  obtain ⟨E1, a1, a2, a3⟩ := items_out pr
  refine ⟨_, rfl, dw, m, rfl, s5 _ _ (s04 _ _ ks.w.1), fun H6 r2 ts2 s6 nr2 hr2 pr2 => ?_⟩
  obtain ⟨E2, b1, b2, b3⟩ := items_out pr2
  refine ⟨r2, _, rfl, SqL.of hr2, fun r3 n3 => ?_⟩
  have s7 := same_new (o := .lst (ts2.map V.ref).reverse) n3
  have h7 := upd_same (H := H6) (a := r3) (o := .lst (ts2.map V.ref).reverse)
  generalize upd H6 r3 (.lst (ts2.map V.ref).reverse) = H7 at s7 h7 ⊢
  have s57 : Same H5 H7 := fun b o e => s7 _ _ (s6 _ _ e)
  have ok1 : ∀ q ∈ m.reverse, QOk q := fun q hq => ks.q q (List.mem_reverse.mp hq)
  have sh := qs_shaped ok1
  have d1 : Dp K H7 (.ref r) (.list (m.reverse.map qD)) := by
    refine .lst (xs := E1.map fun e => V.ref e.1) (SqL.of ?_) ?_
    · rw [s57 _ _ hr1, ← a1, List.map_map] <;> rfl
    · rw [← a2]
      exact dp_items (fun e he => ⟨s57 _ _ (s5 _ _ (a3 e he).1), s57 _ _ (a3 e he).2⟩) fun e he => ok1 _ (by rw [← a2]; exact List.mem_map.mpr ⟨e, he, rfl⟩)
  have d2 : Dp K H7 (.ref r3) (.list (m.reverse.map qD)) := by
    refine .lst (xs := E2.reverse.map fun e => V.ref e.1) (SqL.of ?_) ?_
    · rw [h7, ← b1, List.map_reverse, List.map_map] <;> rfl
    · rw [← b2, ← List.map_reverse]
      exact dp_items (fun e he => ⟨s7 _ _ (s6 _ _ (b3 e (List.mem_reverse.mp he)).1), s7 _ _ (b3 e (List.mem_reverse.mp he)).2⟩) fun e he => ks.q _ (by rw [← b2]; exact List.mem_map.mpr ⟨e, List.mem_reverse.mp he, rfl⟩)
  refine ⟨_, _, d1, d2, sh, sh, false, ?_, ?_⟩
  · rw [SeqAt.eqv_refl _ (SeqAt.canLay_of_shaped sh)] <;> rfl
  refine iteF ?_
  exact k _ fun b o e => s57 _ _ (s5 _ _ (s04 _ _ e))
end
end Yt

set_option Elab.async false
set_option linter.all false
set_option maxRecDepth 100000
set_option maxHeartbeats 2000000
namespace Yt
open PySem PySem.Spec PyProof.Rows L2
/-- what was told of a table: nothing where it is kept, three rows that a way breaks else -/
def Told8 (g : Str → Str → Str → Str) (rs : List (List Str)) (G : Hp) (v : V) : Prop := (v = .non ∧ ClosedG g rs) ∨ WhyV g rs G v
theorem Told8.to {g : Str → Str → Str → Str} {rs : List (List Str)} {G G' : Hp} {v : V} (h : Told8 g rs G v) (s : Same G G') : Told8 g rs G' v := by
  rcases h with h | ⟨x, hx, y, hy, z, hz, h, n⟩
  · exact .inl h
  · exact .inr ⟨x, hx, y, hy, z, hz, h.to s, n⟩
theorem Told8.iff {g : Str → Str → Str → Str} {rs : List (List Str)} {G : Hp} {v : V} (h : Told8 g rs G v) : v = .non ↔ ClosedG g rs := by
  rcases h with ⟨rfl, h⟩ | ⟨x, hx, y, hy, z, hz, ⟨t, a, b, c, rfl, _⟩, n⟩
  · exact ⟨fun _ => h, fun _ => rfl⟩
  · exact ⟨(fun z => nomatch z), fun cl => absurd (cl x hx y hy z hz) n⟩
theorem hid_new {p D : Addr} {H H' : Hp} (b : But p H H') (n : H D = none) : Same (hid p H) (hid D (hid p H')) := fun c o e => by
  have n1 : c ≠ p := fun z => by
    rw [z, hid_off] at e
    cases e
  have e2 := hid_same p H c o e
  exact hid_at (ne_of_none e2 n) (hid_at n1 (b c o n1 e2))
theorem hid2_upd {p D : Addr} {H : Hp} {o : HO} : Same (hid D (hid p H)) (hid D (hid p (upd H D o))) := fun c u e => by
  have n1 : c ≠ D := fun z => by
    rw [z, hid_off] at e
    cases e
  have e2 := hid_same D _ c u e
  have n2 : c ≠ p := fun z => by
    rw [z, hid_off] at e2
    cases e2
  exact hid_at n1 (hid_at n2 ((upd_ne n1).trans (hid_same p H c u e2)))
theorem KS.three {C : Addr} {G : Hp} {A pt L dw : Addr} {ms : List Str} {d : Nat} {M : List (Addr × List Str)} {g : Str → Str → Str → Str} {m : List (List Key × V)} (k : KS C G A pt L dw ms d M g m) {G' : Hp} {v : V} {x y z : List Str} (hx : x ∈ M.map (·.2)) (hy : y ∈ M.map (·.2)) (hz : z ∈ M.map (·.2)) (h : Three G' v x y z) : ValD G' 2 v := by
  obtain ⟨t, a, b, c, rfl, h1, h2, h3, h4⟩ := h
  have len : ∀ r ∈ M.map (·.2), r.length ≤ 1000 := fun r hr => by have := (k.rok r hr).1; have := k.d3; omega
  refine ValD.tup h1 (by show 3 ≤ 1000; decide) fun u hu => ?_
  simp only [List.mem_cons, List.not_mem_nil, or_false] at hu
  rcases hu with rfl | rfl | rfl
  · exact ValD.row h2 (len x hx) (k.wrd x hx)
  · exact ValD.row h3 (len y hy) (k.wrd y hy)
  · exact ValD.row h4 (len z hz) (k.wrd z hz)
abbrev scTurn : Scope := { kind := .function, names := [(".0", .local), ("_law_turn", .local), ("tuple", .globalImplicit), ("range", .globalImplicit), ("_law_purse_here", .free), ("_law_rows", .free)], isGenerator := false, isCoroutine := false, more := [] }
/-- three of some rows, drawn -/
def tThree (p L : Addr) (M : List (Addr × List Str)) : TE := fun σ H Q => ∃ (fu : Nat) (u1 u2 u4 u5 u6 u7 u8 u9 u10 u11 u12 u13 u14 u15 u16 : Option V), σ = [some (.ref p), u1, u2, some (.ref L), u4, u5, u6, u7, u8, u9, u10, u11, u12, u13, u14, u15, u16] ∧ PurseAt H p (fu + 3) ∧ RowsAt (hid p H) L M ∧ 0 < M.length ∧ M.length ≤ 3 ∧
  ∀ (T : Addr) (x y z : Addr × List Str) (H' : Hp), x ∈ M → y ∈ M → z ∈ M → H T = none → T ≠ p → H' T = some (.tup [.ref x.1, .ref y.1, .ref z.1]) → PurseAt H' p fu → But p H H' → Q (.ref T) H'
section
variable {P : Program} {w : World} {K : PySem.W.Frag} {mg : Str → Option Value} {base : Heap} {f : Addr} {fd : FuncData} {C : Addr} {cdv : Value} {A0 : Around} {outer : List Env} {s0 : Shared} {H0 : Hp} {E : XK}
variable {p A pt L dw : Addr} {ms : List Str} {d : Nat} {M : List (Addr × List Str)} {g : Str → Str → Str → Str} {m : List (List Key × V)} {fu : Nat}
theorem st_k3 (Cs : CalK P w K mg base C) (T : Nm mg) (T6 : Nm6 mg) (hr : RoomK A0 s0 f cdv) : PS (KX P w K mg base f cdv A0 outer s0 H0 E) (kSt 3)
    (fun D σ H => ∃ (u5 u6 u7 u9 u10 u11 u12 u13 u14 u15 u16 : Option V) (u8 : V), σ = [some (.ref p), some (.ref A), some (.ref pt), some (.ref L), some (.ref dw), u5, u6, u7, some u8, u9, u10, u11, u12, u13, u14, u15, u16] ∧ KS C (hid p H) A pt L dw ms d M g m ∧ Told8 g (M.map (·.2)) (hid p H) u8 ∧
      ∀ (H' : Hp), Same H H' → D.nx σ H') := by
  obtain ⟨fI, dI, GI, bI, kI, gI⟩ := Cs.is3.ex
  obtain ⟨fG, dG, GG, bG, kG, gG⟩ := Cs.given.ex
  have hu := hu_of hr
  refine pstW (ps_if (PW.pt (pw_and (pt_cmpR op_notN (pv 8) pe_non (nomark _)) (pw_and1 (PW.pt (pw_or (pt_not (pt_val (pe_call GI (hr.mono (by decide)) rfl gI kI bI .nil pass0 (pa_cons (pv 3) (pa_cons (pv 8) pa_nil)))))
      (pw_or1 (pt_cmpR (op_in_rows hu) (pe_call GG (hr.mono (by decide)) rfl gG kG bG .nil pass0 (pa_cons (pv 4) (pa_cons (pv 8) pa_nil))) (pv 3) (by rfl)))))))) 
    (pss_one (ps_ret pe_bl)) pss_nil) fun D σ H h => ?_
  obtain ⟨u5, u6, u7, u9, u10, u11, u12, u13, u14, u15, u16, u8, rfl, hK, tld, k⟩ := h
  have ks := hK.to (hid_same p H)
  rcases tld with ⟨rfl, cl⟩ | hw
  · refine ⟨_, rfl, rfl, false, rfl, ?_⟩
    refine iteF ?_
    refine iteF ?_
    exact k _ fun _ _ e => e
  · obtain ⟨x, hx, y, hy, z, hz, h3, nc⟩ := hw
    have v8 : Val H u8 := ((hK.three hx hy hz h3).le (by decide)).val.to (hid_same p H)
    have h3' := h3.to (hid_same p H)
    obtain ⟨t, a, b, c, rfl, h1, h2, h4, h5⟩ := id h3'
    refine ⟨_, rfl, rfl, true, rfl, ?_⟩
    refine iteT ?_
    refine ⟨_, rfl, _, rfl, L, _, M, true, rfl, ks.l, ks.wrd, v8, ⟨fun _ => ⟨x, hx, y, hy, z, hz, h3'⟩, fun _ => rfl⟩, fun H1 s1 => ⟨true, rfl, ?_⟩⟩
    refine iteF ?_
    have k1 := ks.to s1
    refine ⟨_, rfl, _, rfl, dw, t, a, b, c, ms, g, d + 1, x, y, z, rfl, k1.way.at_, s1 _ _ h1, s1 _ _ h2, s1 _ _ h4, s1 _ _ h5, (k1.rok x hx).1, (k1.rok y hy).1, (k1.rok z hz).1, by have := k1.d3; omega, (k1.rok x hx).2, (k1.rok y hy).2, (k1.rok z hz).2, fun T0 H2 nT hT s2 => ?_⟩
    have k2 := k1.to s2
    refine ⟨_, rfl, T0, L, _, M, rfl, rfl, hT, k2.l.1, k2.l.2, false, by rw [decide_eq_false nc], ?_⟩
    refine iteF ?_
    exact k _ fun b o e => s2 _ _ (s1 _ _ e)
end
end Yt

set_option Elab.async false
set_option linter.all false
set_option maxRecDepth 100000
set_option maxHeartbeats 4000000
namespace Yt
open PySem PySem.Spec PyProof.Rows L2
/-- a list of values that the law asks about -/
def ValsAt (p : Addr) (n : Nat) (H : Hp) (l : Addr) : Prop := ∃ vs : List V, H l = some (.lst vs) ∧ (∀ v ∈ vs, Val (hid p H) v) ∧ vs.length ≤ n ∧ l ≠ p
section
variable {P : Program} {w : World} {K : PySem.W.Frag} {mg : Str → Option Value} {base : Heap} {f : Addr} {fd : FuncData} {C : Addr} {cdv : Value} {A0 : Around} {outer : List Env} {s0 : Shared} {H0 : Hp} {E : XK}
variable {p A pt L dw : Addr} {ms : List Str} {d : Nat} {M : List (Addr × List Str)} {g : Str → Str → Str → Str} {m : List (List Key × V)} {fu : Nat}
theorem st_k4 (Cs : CalK P w K mg base C) (T : Nm mg) (T6 : Nm6 mg) (hr : RoomK A0 s0 f cdv) : PS (KX P w K mg base f cdv A0 outer s0 H0 E) (kSt 4)
    (fun D σ H => ∃ (u5 u6 u7 u9 u10 u11 u12 u13 u14 u15 u16 : Option V) (u8 : V), σ = [some (.ref p), some (.ref A), some (.ref pt), some (.ref L), some (.ref dw), u5, u6, u7, some u8, u9, u10, u11, u12, u13, u14, u15, u16] ∧ PurseAt H p (fu + 12) ∧ KS C (hid p H) A pt L dw ms d M g m ∧ Told8 g (M.map (·.2)) (hid p H) u8 ∧
      ∀ (l : Addr) (H' : Hp), ValsAt p 16 H' l → PurseAt H' p fu → But p H H' → D.nx [some (.ref p), some (.ref A), some (.ref pt), some (.ref L), some (.ref dw), u5, u6, u7, some u8, u9, some (.ref l), u11, u12, u13, u14, u15, u16] H') := by
  obtain ⟨fO, dO, GO, bO, kO, gO⟩ := Cs.one.ex
  have hu := hu_of hr
  refine pstW (ps_set (i := 10) scKept.nd rfl (Or.inl rfl) (pe_op op_cat
      (pe_lst (pa_cons (pv 8) (pa_cons pe_non (pa_cons pe_int (pa_cons pe_bl (pa_cons pe_str (pa_cons (pe_lst pa_nil) (pa_cons (pe_tup pa_nil) (pa_cons pe_dnewT (pa_cons (pe_tup (pa_cons (pv 3) pa_nil)) (pa_cons (pe_lst (pa_cons (pv 8) pa_nil))
        (pa_cons (pe_tup (pa_cons (pe_lst (pa_cons (pe_ix ix_list (pv 1) pe_int (fun _ _ => rfl)) pa_nil)) pa_nil))
        (pa_cons (pe_op op_repT (pe_tup (pa_cons (pe_tup (pa_cons (pe_lst (pa_cons (pe_ix ix_list (pv 1) pe_int (fun _ _ => rfl)) pa_nil)) pa_nil)) pa_nil)) pe_int) pa_nil)))))))))))))
      (pe_lc (own := [("_law_turn", 16)]) (g := gName 16) (tt := tTest (tOp (rNeD K) (tVar 3) (tLst tNil))) (te := tThree p L M) rfl scKept.nd (pi_range1 rfl T.range (pa_cons pe_int pa_nil)) (blkOk_by (own := [("_law_turn", 16)]) (N := krN) (sc := defScope sLKept) (by decide +kernel))
        (fun _ _ _ _ _ => pg_name (i := 16) scKept.nd rfl (Or.inl rfl)) (fun _ _ _ _ _ => pts_one (pt_cmpR (op_neD hr.units) (pv 3) (pe_lst pa_nil) (nomark _)))
        (fun _ _ _ _ _ => pexW (pe_callTy call_tuple_of (by rfl) T6.tuple (by decide +kernel) (pa_cons
          (pe_lc (own := [("_law_late", 9)]) (g := gName 9) (tt := tYes) (te := tCall (spOne K) [] E0 (tCons (tVar 0) (tCons (tVar 3) tNil))) rfl scKept.nd (pi_range1 rfl T.range (pa_cons pe_int pa_nil)) (blkOk_by (own := [("_law_late", 9)]) (N := krN) (sc := relS scTurn (defScope sLKept)) (by decide +kernel))
            (fun _ _ _ _ _ => pg_name (i := 9) scKept.nd rfl (Or.inl rfl)) (fun _ _ _ _ _ => pts_nil) (fun _ _ _ _ _ => pe_call GO (hr.mono (by decide)) rfl gO kO bO .nil pass0 (pa_cons (pv 0) (pa_cons (pv 3) pa_nil)))) pa_nil)) fun σ H Q hq => ?_)))) fun D σ H h => ?_
  · obtain ⟨fv, u1, u2, u4, u5, u6, u7, u8, u9, u10, u11, u12, u13, u14, u15, u16, rfl, hP, hL, l0, l3, k⟩ := hq
    have hL' := hL.to (hid_same p H)
    have nL : L ≠ p := fun z => by
      rw [z] at hL
      have := hL.1
      rw [hid_off] at this
      cases this
    refine ⟨_, rfl, by decide, by decide, fun D hD => ?_⟩
    have nD := hP.ne hD
    refine lc_range (lo := 0) (n := 3) (fun i Hx => ∃ ys : List (Addr × List Str), ys.length = i ∧ (∀ y ∈ ys, y ∈ M) ∧ Hx D = some (.lst (ys.map fun y => V.ref y.1)) ∧ PurseAt Hx p (fv + 3 - i) ∧ But p H Hx) ⟨[], rfl, (fun z hz => nomatch hz), upd_same, hP.at_ne nD, Same.but (same_new hD)⟩ ?_ ?_
    · rintro i H3 hi ⟨ys, hl, hs, hDy, hP3, hB3⟩
      have e1 : fv + 3 - i = fv + 3 - (i + 1) + 1 := by omega
      rw [e1] at hP3
      refine ⟨rfl, ?_⟩
      refine ⟨_, rfl, _, rfl, p, L, fv + 3 - (i + 1), M.map fun e => V.ref e.1, rfl, hP3, SqL.of (hB3 _ _ nL hL'.1), nL, by rw [List.length_map]; omega, fun j x H4 hj hP4 hB4 => ?_⟩
      rw [List.getElem?_map] at hj
      obtain ⟨z, hz, rfl⟩ := Option.map_eq_some_iff.mp hj
      refine ⟨_, hB4 _ _ nD hDy, by rw [List.length_map]; exact len_ok (by omega), ys ++ [z], by rw [List.length_append, hl]; rfl, ?_, by rw [upd_same, List.map_append]; rfl, hP4.at_ne nD, fun b o nb q => (upd_ne (ne_of_none q hD)).trans (hB4 _ _ nb (hB3 _ _ nb q))⟩
      intro y hy
      rcases List.mem_append.mp hy with q | q
      · exact hs y q
      · rw [List.mem_singleton.mp q]
        exact List.mem_of_getElem? hz
    · rintro Hx ⟨ys, hl, hs, hDy, hPx, hBx⟩
      match ys, hl with
      | [x, y, z], _ =>
        refine ⟨D, _, rfl, .inl ⟨SqL.of hDy, fun t nt => ?_⟩⟩
        have nt' := hPx.ne nt
        exact k t x y z _ (hs x (by simp)) (hs y (by simp)) (hs z (by simp)) (But.none hBx nt' nt) nt' upd_same ((hPx.less (by omega)).at_ne nt') fun b o nb q => same_new nt _ _ (hBx _ _ nb q)
  · obtain ⟨u5, u6, u7, u9, u10, u11, u12, u13, u14, u15, u16, u8, rfl, hP, hK, tld, k⟩ := h
    have l0 : 0 ≤ sizeLine := by decide
    have l1 : 1 ≤ sizeLine := by decide
    have l12 : 12 ≤ sizeLine := by decide
    have o1 : (1 : Nat) ≤ 1000 := by decide
    have o3 : (3 : Nat) ≤ 1000 := by decide
    have one : ∀ {G : Hp} {n : Nat} {x v : V}, ValD G n v → x ∈ [v] → ValD G n x := fun h hx => by rw [List.mem_singleton.mp hx]; exact h
    have v8 : ValD (hid p H) 2 u8 := by
      rcases tld with ⟨rfl, _⟩ | ⟨x, hx, y, hy, z, hz, h3, _⟩
      · exact ValD.non
      · exact hK.three hx hy hz h3
    have vL : ValD (hid p H) 2 (.ref L) := ValD.lst hK.l.1 (by rw [List.length_map]; have := hK.lM; omega) fun x hx => by
      obtain ⟨e, he, rfl⟩ := List.mem_map.mp hx
      exact hK.row he
    obtain ⟨m0, e0, w0⟩ : ∃ m0, ms[0]? = some m0 ∧ WordOk m0 := by
      have l := hK.ok.1
      refine ⟨ms[0], List.getElem?_eq_getElem (by omega), hK.ok.2.2.2 _ (List.getElem_mem _)⟩
    have hA := hid_same p H _ _ hK.a
    have fresh : ∀ {Hc : Hp} {D : Addr}, Same H Hc → Hc D = none → D ≠ p := fun {Hc D} s n => (hP.to fun o z => s _ _ z).ne n
    -- []
    refine ⟨_, rfl, l0, fun q1 n1 => ?_⟩
    have s1 := same_new (o := .lst []) n1
    have h1 := hid_at (fresh (fun _ _ e => e) n1) (upd_same (H := H) (a := q1) (o := .lst []))
    generalize upd H q1 (.lst []) = H1 at s1 h1 ⊢
    -- ()
    refine ⟨l0, fun q2 n2 => ?_⟩
    have s2 : Same H1 _ := same_new (o := .tup []) n2
    have h2 := hid_at (fresh s1 n2) (upd_same (H := H1) (a := q2) (o := .tup []))
    have c2 : Same H (upd H1 q2 (.tup [])) := fun b o e => s2 _ _ (s1 _ _ e)
    generalize upd H1 q2 (.tup []) = H2 at s2 h2 c2 ⊢
    -- {}
    refine fun q3 n3 => ?_
    have s3 : Same H2 _ := same_new (o := .dT []) n3
    have h3 := hid_at (fresh c2 n3) (upd_same (H := H2) (a := q3) (o := .dT []))
    have c3 : Same H (upd H2 q3 (.dT [])) := fun b o e => s3 _ _ (c2 _ _ e)
    generalize upd H2 q3 (.dT []) = H3 at s3 h3 c3 ⊢
    -- (rows,)
    refine ⟨_, rfl, l1, fun q4 n4 => ?_⟩
    have s4 : Same H3 _ := same_new (o := .tup [.ref L]) n4
    have h4 := hid_at (fresh c3 n4) (upd_same (H := H3) (a := q4) (o := .tup [.ref L]))
    have c4 : Same H (upd H3 q4 (.tup [.ref L])) := fun b o e => s4 _ _ (c3 _ _ e)
    generalize upd H3 q4 (.tup [.ref L]) = H4 at s4 h4 c4 ⊢
    -- [told]
    refine ⟨_, rfl, l1, fun q5 n5 => ?_⟩
    have s5 : Same H4 _ := same_new (o := .lst [u8]) n5
    have h5 := hid_at (fresh c4 n5) (upd_same (H := H4) (a := q5) (o := .lst [u8]))
    have c5 : Same H (upd H4 q5 (.lst [u8])) := fun b o e => s5 _ _ (c4 _ _ e)
    generalize upd H4 q5 (.lst [u8]) = H5 at s5 h5 c5 ⊢
    -- ([mark],)
    refine ⟨_, rfl, A, _, _, V.str m0, rfl, rfl, SqL.of (c5 _ _ hA), atI_nat (j := 0) (by rw [List.getElem?_map, e0] <;> rfl), l1, fun q6 n6 => ?_⟩
    have s6 : Same H5 _ := same_new (o := .lst [V.str m0]) n6
    have h6 := hid_at (fresh c5 n6) (upd_same (H := H5) (a := q6) (o := .lst [V.str m0]))
    have c6 : Same H (upd H5 q6 (.lst [V.str m0])) := fun b o e => s6 _ _ (c5 _ _ e)
    generalize upd H5 q6 (.lst [V.str m0]) = H6 at s6 h6 c6 ⊢
    refine ⟨l1, fun q7 n7 => ?_⟩
    have s7 : Same H6 _ := same_new (o := .tup [.ref q6]) n7
    have h7 := hid_at (fresh c6 n7) (upd_same (H := H6) (a := q7) (o := .tup [.ref q6]))
    have c7 : Same H (upd H6 q7 (.tup [.ref q6])) := fun b o e => s7 _ _ (c6 _ _ e)
    generalize upd H6 q7 (.tup [.ref q6]) = H7 at s7 h7 c7 ⊢
    -- (([mark],),) * 3
    refine ⟨_, rfl, A, _, _, V.str m0, rfl, rfl, SqL.of (c7 _ _ hA), atI_nat (j := 0) (by rw [List.getElem?_map, e0] <;> rfl), l1, fun q8 n8 => ?_⟩
    have s8 : Same H7 _ := same_new (o := .lst [V.str m0]) n8
    have h8 := hid_at (fresh c7 n8) (upd_same (H := H7) (a := q8) (o := .lst [V.str m0]))
    have c8 : Same H (upd H7 q8 (.lst [V.str m0])) := fun b o e => s8 _ _ (c7 _ _ e)
    generalize upd H7 q8 (.lst [V.str m0]) = H8 at s8 h8 c8 ⊢
    refine ⟨l1, fun q9 n9 => ?_⟩
    have s9 : Same H8 _ := same_new (o := .tup [.ref q8]) n9
    have h9 := hid_at (fresh c8 n9) (upd_same (H := H8) (a := q9) (o := .tup [.ref q8]))
    have c9 : Same H (upd H8 q9 (.tup [.ref q8])) := fun b o e => s9 _ _ (c8 _ _ e)
    generalize upd H8 q9 (.tup [.ref q8]) = H9 at s9 h9 c9 ⊢
    refine ⟨l1, fun q10 n10 => ?_⟩
    have s10 : Same H9 _ := same_new (o := .tup [.ref q9]) n10
    have h10 := upd_same (H := H9) (a := q10) (o := .tup [.ref q9])
    have c10 : Same H (upd H9 q10 (.tup [.ref q9])) := fun b o e => s10 _ _ (c9 _ _ e)
    generalize upd H9 q10 (.tup [.ref q9]) = H10 at s10 h10 c10 ⊢
    refine ⟨q10, 3, _, rfl, rfl, SqT.of h10, by simp, by decide, by decide, o1, fun q11 n11 => ?_⟩
    generalize etl : (List.replicate (Int.toNat 3) [V.ref q9]).flatten = tl
    obtain rfl : tl = [.ref q9, .ref q9, .ref q9] := by rw [← etl] <;> rfl
    have s11 : Same H10 (upd H10 q11 (.tup [.ref q9, .ref q9, .ref q9])) := same_new (o := .tup [.ref q9, .ref q9, .ref q9]) n11
    have h11 := hid_at (fresh c10 n11) (upd_same (H := H10) (a := q11) (o := .tup [.ref q9, .ref q9, .ref q9]))
    have c11 : Same H (upd H10 q11 (.tup [.ref q9, .ref q9, .ref q9])) := fun b o e => s11 _ _ (c10 _ _ e)
    clear etl
    generalize upd H10 q11 (.tup [.ref q9, .ref q9, .ref q9]) = H11 at s11 h11 c11 ⊢
    refine ⟨l12, fun q12 n12 => ?_⟩
    obtain ⟨vs, evs⟩ : ∃ vs : List V, vs = [u8, .non, .int 0, .bl true, .str "", .ref q1, .ref q2, .ref q3, .ref q4, .ref q5, .ref q7, .ref q11] := ⟨_, rfl⟩
    rw [← evs]
    have s12 : Same H11 _ := same_new (o := .lst vs) n12
    have h12 := upd_same (H := H11) (a := q12) (o := .lst vs)
    have c12 : Same H (upd H11 q12 (.lst vs)) := fun b o e => s12 _ _ (c11 _ _ e)
    have nq12 := fresh c11 n12
    generalize upd H11 q12 (.lst vs) = H12 at s12 h12 c12 ⊢
    have t11 : Same (hid p H11) (hid p H12) := Same.hid s12
    have t9 : Same (hid p H9) (hid p H12) := fun b o e => t11 _ _ ((Same.hid s11) _ _ ((Same.hid s10) _ _ e))
    have t8 : Same (hid p H8) (hid p H12) := fun b o e => t9 _ _ ((Same.hid s9) _ _ e)
    have t7 : Same (hid p H7) (hid p H12) := fun b o e => t8 _ _ ((Same.hid s8) _ _ e)
    have t6 : Same (hid p H6) (hid p H12) := fun b o e => t7 _ _ ((Same.hid s7) _ _ e)
    have t5 : Same (hid p H5) (hid p H12) := fun b o e => t6 _ _ ((Same.hid s6) _ _ e)
    have t4 : Same (hid p H4) (hid p H12) := fun b o e => t5 _ _ ((Same.hid s5) _ _ e)
    have t3 : Same (hid p H3) (hid p H12) := fun b o e => t4 _ _ ((Same.hid s4) _ _ e)
    have t2 : Same (hid p H2) (hid p H12) := fun b o e => t3 _ _ ((Same.hid s3) _ _ e)
    have t1 : Same (hid p H1) (hid p H12) := fun b o e => t2 _ _ ((Same.hid s2) _ _ e)
    have t0 : Same (hid p H) (hid p H12) := Same.hid c12
    have hv' : ∀ v ∈ vs, Val (hid p H12) v := by
      rw [evs]
      have w8 := v8.to t0
      have wm : ∀ x ∈ [V.str m0], ValD (hid p H12) 0 x := fun x hx => one (ValD.str (word_str w0)) hx
      have w7 : ValD (hid p H12) 2 (.ref q7) := ValD.tup (t7 _ _ h7) o1 fun x hx => one (ValD.lst (t6 _ _ h6) o1 wm) hx
      have w9 : ValD (hid p H12) 2 (.ref q9) := ValD.tup (t9 _ _ h9) o1 fun x hx => one (ValD.lst (t8 _ _ h8) o1 wm) hx
      intro v hv
      simp only [List.mem_cons, List.not_mem_nil, or_false] at hv
      rcases hv with rfl | rfl | rfl | rfl | rfl | rfl | rfl | rfl | rfl | rfl | rfl | rfl
      · exact (w8.le (by decide)).val
      · exact ValD.non.val
      · exact (ValD.int 0).val
      · exact (ValD.bl true).val
      · exact (ValD.str (by decide +kernel)).val
      · exact (ValD.lst (n := 2) (t1 _ _ h1) (by decide) fun x hx => by cases hx).val
      · exact (ValD.tup (n := 2) (t2 _ _ h2) (by decide) fun x hx => by cases hx).val
      · exact .inr ⟨q3, rfl, t3 _ _ h3⟩
      · exact (ValD.tup (t4 _ _ h4) o1 fun x hx => one (vL.to t0) hx).val
      · exact (ValD.lst (t5 _ _ h5) o1 fun x hx => one w8 hx).val
      · exact (w7.le (by decide)).val
      · exact (ValD.tup (t11 _ _ h11) o3 fun x hx => by
          simp only [List.mem_cons, List.not_mem_nil, or_false] at hx
          rcases hx with rfl | rfl | rfl <;> exact w9).val
    have lv : vs.length = 12 := by rw [evs] <;> rfl
    clear evs s1 s2 s3 s4 s5 s6 s7 s8 s9 s10 s11 h1 h2 h3 h4 h5 h6 h7 h8 h9 h10 h11 n1 n2 n3 n4 n5 n6 n7 n8 n9 n10 n11 c2 c3 c4 c5 c6 c7 c8 c9 c10 c11 t1 t2 t3 t4 t5 t6 t7 t8 t9 t11
    have hP12 : PurseAt H12 p (fu + 12) := hP.to fun o z => c12 _ _ z
    have hK12 := hK.to t0
    refine ⟨_, rfl, by decide, by decide, fun D hD => ?_⟩
    have nD := hP12.ne hD
    refine lc_range (lo := 0) (n := 4) (fun i Hx => ∃ ys : List V, ys.length ≤ i ∧ (∀ y ∈ ys, ValD (hid D (hid p Hx)) 2 y) ∧ Hx D = some (.lst ys) ∧ PurseAt Hx p (fu + 12 - 3 * i) ∧ But p H12 Hx) ⟨[], Nat.le_refl _, (fun z hz => nomatch hz), upd_same, hP12.at_ne nD, Same.but (same_new hD)⟩ ?_ ?_
    · rintro i Hx hi ⟨ys, hl, hs, hDy, hPx, hBx⟩
      refine ⟨rfl, ?_⟩
      refine ⟨_, rfl, l0, fun qe ne => ?_⟩
      have se : Same Hx _ := same_new (o := .lst []) ne
      have he := upd_same (H := Hx) (a := qe) (o := .lst [])
      generalize upd Hx qe (.lst []) = Hy at se he ⊢
      have hPy : PurseAt Hy p (fu + 12 - 3 * i) := hPx.to fun o z => se _ _ z
      have hBy : But p H12 Hy := hBx.trans (Same.but se)
      have kN := hK12.to (But.hid hBy)
      have ky := kN.to (hid_same p Hy)
      have shR : SeqAt.shaped (.list ((M.map (·.2)).map rowD)) = true := rows_shaped ky.wrd
      refine ⟨_, .list [], .lst (SqL.of ky.l.1) (dp_rows ky.l.2), .lst (SqL.of he) .nil, shR, by decide +kernel, ?_⟩
      by_cases c : 0 < M.length
      · refine ⟨true, ?_, ?_⟩
        · match M, c with
          | e :: M, _ => simp [PyData.eqv, PyData.eqvAll]
        refine iteT ?_
        obtain ⟨fv, ef⟩ : ∃ fv, fu + 12 - 3 * i = fv + 3 := ⟨fu + 12 - 3 * i - 3, by omega⟩
        rw [ef] at hPy
        refine ⟨fv, _, _, _, _, _, _, _, _, _, _, _, _, _, _, _, rfl, hPy, kN.l, c, ky.lM, fun T0 x y z H5 hx hy hz nT0 nT hT hP5 hB5 => ?_⟩
        have hD5 := hB5 _ _ nD (se _ _ hDy)
        have TD : T0 ≠ D := fun q => by
          rw [q, se _ _ hDy] at nT0
          cases nT0
        refine ⟨ys, hD5, by exact len_ok (by omega), ys ++ [.ref T0], by rw [List.length_append]; simp only [List.length_singleton]; omega, ?_, upd_same, (hP5.less (by omega)).at_ne nD, fun b o nb q => (upd_ne (ne_of_none q hD)).trans (hB5 _ _ nb (hBy _ _ nb q))⟩
        intro v hv
        have kD := hK12.to (hid_new (hBy.trans hB5) hD)
        refine ValD.to ?_ hid2_upd
        rcases List.mem_append.mp hv with hv | hv
        · exact (hs v hv).to (Same.hid (But.hid ((Same.but se).trans hB5)))
        · rw [List.mem_singleton.mp hv]
          refine ValD.tup (hid_at TD (hid_at nT hT)) o3 fun u hu => ?_
          simp only [List.mem_cons, List.not_mem_nil, or_false] at hu
          rcases hu with rfl | rfl | rfl
          · exact kD.row hx
          · exact kD.row hy
          · exact kD.row hz
      · refine ⟨false, ?_, ?_⟩
        · have : M = [] := List.eq_nil_of_length_eq_zero (by omega)
          subst this
          rfl
        refine iteF ?_
        exact ⟨ys, by omega, fun y hy => (hs y hy).to (Same.hid (Same.hid se)), se _ _ hDy, hPy.less (by omega), hBy⟩
    · rintro Hx ⟨ys, hl, hs, hDy, hPx, hBx⟩
      refine ⟨q12, D, vs, ys, rfl, rfl, hBx _ _ nq12 h12, hDy, by rw [lv, sizeLine_eq]; omega, fun r nr => ?_⟩
      have nr' := hPx.ne nr
      have sr := same_new (o := .lst (vs ++ ys)) nr
      refine k r _ ⟨vs ++ ys, upd_same, fun v hv => ?_, by rw [List.length_append, lv]; omega, nr'⟩ ((hPx.less (by omega)).at_ne nr') fun b o nb q => sr _ _ (hBx _ _ nb (c12 _ _ q))
      refine Val.to ?_ (Same.hid sr)
      rcases List.mem_append.mp hv with hv | hv
      · exact (hv' v hv).to (But.hid hBx)
      · exact (((hs v hv).to (hid_same D _)).le (by decide)).val
end
end Yt

set_option Elab.async false
set_option linter.all false
set_option maxRecDepth 100000
set_option maxHeartbeats 4000000
namespace Yt
open PySem PySem.Spec PyProof.Rows L2
def rLo (K : PySem.W.Frag) : List V → Hp → VK → Prop := fun xs H Q => ∃ p ys, xs = [.ref p] ∧ (SqL K H p ys ∨ SqT K H p ys) ∧ ∀ l, H l = none → Q (.ref l) (upd H l (.lst ys))
theorem call_lo {X : Cx} : CallR X (.type "list") (rLo X.K) := call_list_of
section
variable {P : Program} {w : World} {K : PySem.W.Frag} {mg : Str → Option Value} {base : Heap} {f : Addr} {fd : FuncData} {C : Addr} {cdv : Value} {A0 : Around} {outer : List Env} {s0 : Shared} {H0 : Hp} {E : XK}
variable {p A pt L dw : Addr} {ms : List Str} {d : Nat} {M : List (Addr × List Str)} {g : Str → Str → Str → Str} {m : List (List Key × V)} {fu n : Nat}
theorem st_k5 (Cs : CalK P w K mg base C) (T : Nm mg) (T6 : Nm6 mg) (hr : RoomK A0 s0 f cdv) (hn : n ≤ 100) : PS (KX P w K mg base f cdv A0 outer s0 H0 E) (kSt 5)
    (fun D σ H => ∃ (u5 u6 u7 u9 u11 u12 u13 u14 u15 u16 : Option V) (u8 : V) (l : Addr), σ = [some (.ref p), some (.ref A), some (.ref pt), some (.ref L), some (.ref dw), u5, u6, u7, some u8, u9, some (.ref l), u11, u12, u13, u14, u15, u16] ∧ PurseAt H p fu ∧ KS C (hid p H) A pt L dw ms d M g m ∧ Told8 g (M.map (·.2)) (hid p H) u8 ∧ ValsAt p n H l ∧
      ∀ (l' : Addr) (H' : Hp), ValsAt p (n + 7) H' l' → Same H H' → D.nx [some (.ref p), some (.ref A), some (.ref pt), some (.ref L), some (.ref dw), u5, u6, u7, some u8, u9, some (.ref l'), u11, u12, u13, u14, u15, u16] H') := by
  have hu := hu_of hr
  refine pstW (ps_if (pt_cmpR op_notN (pv 8) pe_non (nomark _)) (pss_one (ps_set (i := 10) scKept.nd rfl (Or.inl rfl) (pe_op op_cat (pv 10)
      (pe_lst (pa_cons (pe_rev3 (pv 8)) (pa_cons (pe_callTy call_list_of (by rfl) T6.list (by decide +kernel) (pa_cons (pv 8) pa_nil)) (pa_cons (pe_slice sl_tup (pv 8) po_none (po_some pe_int)) (pa_cons (pe_op op_catA (pv 8) (pe_slice sl_tup (pv 8) po_none (po_some pe_int)))
        (pa_cons (pe_callTy call_tuple_of (by rfl) T6.tuple (by decide +kernel) (pa_cons (pe_lc (own := [("_law_row_here", 11)]) (g := gName 11) (tt := tYes) (te := tCB (rLo K) (tCons (tVar 11) tNil)) rfl scKept.nd (pi_tup (pv 8)) (blkOk_by (own := [("_law_row_here", 11)]) (N := krN) (sc := defScope sLKept) (by decide +kernel))
          (fun _ _ _ _ _ => pg_name (i := 11) scKept.nd rfl (Or.inl rfl)) (fun _ _ _ _ _ => pts_nil) (fun _ _ _ _ _ => pe_callTy call_lo (by rfl) T6.list (by decide +kernel) (pa_cons (pv 11) pa_nil))) pa_nil))
        (pa_cons (pe_tup (pa_cons (pe_ix ix_tup (pv 8) pe_int (fun _ _ => rfl)) (pa_cons (pe_ix ix_tup (pv 8) pe_int (fun _ _ => rfl)) (pa_cons pe_non pa_nil))))
        (pa_cons (pe_tup (pa_cons (pe_ix ix_tup (pv 8) pe_int (fun _ _ => rfl)) (pa_cons (pe_ix ix_tup (pv 8) pe_int (fun _ _ => rfl)) (pa_cons (pe_op op_catA (pe_ix ix_tup (pv 8) pe_int (fun _ _ => rfl)) (pe_ix ix_tup (pv 8) pe_int (fun _ _ => rfl))) pa_nil)))) pa_nil))))))))))) pss_nil) fun D σ H h => ?_
  obtain ⟨u5, u6, u7, u9, u11, u12, u13, u14, u15, u16, u8, l, rfl, hP, hK, tld, hV, k⟩ := h
  obtain ⟨vs, hl, hv, lv, nl⟩ := id hV
  rcases tld with ⟨rfl, cl⟩ | hw
  · refine ⟨_, rfl, rfl, false, rfl, ?_⟩
    refine iteF ?_
    exact k l _ ⟨vs, hl, hv, by omega, nl⟩ fun _ _ e => e
  · obtain ⟨x, hx, y, hy, z, hz, h3, nc⟩ := hw
    obtain ⟨t, a, b, c, rfl, g0, ga, gb, gc⟩ := id h3
    have e0 := hid_same p H _ _ g0
    have ea := hid_same p H _ _ ga
    have eb := hid_same p H _ _ gb
    have ec := hid_same p H _ _ gc
    have len : ∀ r ∈ M.map (·.2), r.length = d + 1 := fun r hr => (hK.rok r hr).1
    have d3 := hK.d3
    have len1 : ∀ r ∈ M.map (·.2), r.length ≤ 1000 := fun r hr => by have := len r hr; omega
    have l2 : 2 ≤ sizeLine := by decide
    have l3 : 3 ≤ sizeLine := by decide
    have l7 : 7 ≤ sizeLine := by decide
    have o2 : (2 : Nat) ≤ 1000 := by decide
    have o3 : (3 : Nat) ≤ 1000 := by decide
    have o4 : (4 : Nat) ≤ 1000 := by decide
    have fresh : ∀ {Hc : Hp} {D : Addr}, Same H Hc → Hc D = none → D ≠ p := fun {Hc D} s n => (hP.to fun o z => s _ _ z).ne n
    refine ⟨_, rfl, rfl, true, rfl, ?_⟩
    refine iteT ?_
    -- told[::-1]
    refine ⟨_, rfl, _, rfl, t, .ref a, .ref b, .ref c, rfl, SqT.of e0, fun q1 n1 => ?_⟩
    have s1 := same_new (o := .tup [.ref c, .ref b, .ref a]) n1
    have h1 := hid_at (fresh (fun _ _ e => e) n1) (upd_same (H := H) (a := q1) (o := .tup [.ref c, .ref b, .ref a]))
    generalize upd H q1 (.tup [.ref c, .ref b, .ref a]) = H1 at s1 h1 ⊢
    -- list(told)
    refine ⟨_, rfl, t, _, rfl, .inr (SqT.of (s1 _ _ e0)), fun q2 n2 => ?_⟩
    have s2 : Same H1 _ := same_new (o := .lst [.ref a, .ref b, .ref c]) n2
    have h2 := hid_at (fresh s1 n2) (upd_same (H := H1) (a := q2) (o := .lst [.ref a, .ref b, .ref c]))
    have c2 : Same H (upd H1 q2 (.lst [.ref a, .ref b, .ref c])) := fun b o e => s2 _ _ (s1 _ _ e)
    generalize upd H1 q2 (.lst [.ref a, .ref b, .ref c]) = H2 at s2 h2 c2 ⊢
    -- told[:2]
    refine ⟨_, rfl, _, rfl, t, [.ref a, .ref b, .ref c], rfl, SqT.of (c2 _ _ e0), (show ¬ (HT.sIx 3 0 none = 0 ∧ HT.sIx 3 3 (some 2) = 3) by decide), fun q3 n3 => ?_⟩
    generalize etl : cutV [V.ref a, .ref b, .ref c] none (some 2) = tl
    obtain rfl : tl = [.ref a, .ref b] := by rw [← etl] <;> rfl
    clear etl
    have s3 : Same H2 _ := same_new (o := .tup [.ref a, .ref b]) n3
    have h3' := hid_at (fresh c2 n3) (upd_same (H := H2) (a := q3) (o := .tup [.ref a, .ref b]))
    have c3 : Same H (upd H2 q3 (.tup [.ref a, .ref b])) := fun b o e => s3 _ _ (c2 _ _ e)
    generalize upd H2 q3 (.tup [.ref a, .ref b]) = H3 at s3 h3' c3 ⊢
    -- told + told[:1]
    refine ⟨_, rfl, _, rfl, _, rfl, t, [.ref a, .ref b, .ref c], rfl, SqT.of (c3 _ _ e0), (show ¬ (HT.sIx 3 0 none = 0 ∧ HT.sIx 3 3 (some 1) = 3) by decide), fun q4 n4 => ?_⟩
    generalize etl : cutV [V.ref a, .ref b, .ref c] none (some 1) = tl
    obtain rfl : tl = [.ref a] := by rw [← etl] <;> rfl
    clear etl
    have s4 : Same H3 _ := same_new (o := .tup [.ref a]) n4
    have h4 := upd_same (H := H3) (a := q4) (o := .tup [.ref a])
    have c4 : Same H (upd H3 q4 (.tup [.ref a])) := fun b o e => s4 _ _ (c3 _ _ e)
    generalize upd H3 q4 (.tup [.ref a]) = H4 at s4 h4 c4 ⊢
    refine ⟨t, q4, [.ref a, .ref b, .ref c], [.ref a], rfl, rfl, SqT.of (c4 _ _ e0), SqT.of h4, (show 4 ≤ sizeLine by decide), (fun z => nomatch z), (fun _ z => nomatch z), fun _ _ q5 n5 => ?_⟩
    generalize etl : [V.ref a, .ref b, .ref c] ++ [V.ref a] = tl
    obtain rfl : tl = [.ref a, .ref b, .ref c, .ref a] := by rw [← etl] <;> rfl
    clear etl
    have s5 : Same H4 (upd H4 q5 (.tup [.ref a, .ref b, .ref c, .ref a])) := same_new (o := .tup [.ref a, .ref b, .ref c, .ref a]) n5
    have h5 := hid_at (fresh c4 n5) (upd_same (H := H4) (a := q5) (o := .tup [.ref a, .ref b, .ref c, .ref a]))
    have c5 : Same H (upd H4 q5 (.tup [.ref a, .ref b, .ref c, .ref a])) := fun b o e => s5 _ _ (c4 _ _ e)
    generalize upd H4 q5 (.tup [.ref a, .ref b, .ref c, .ref a]) = H5 at s5 h5 c5 ⊢
    -- tuple([list(row) for row in told])
    refine ⟨_, rfl, t, rfl, ⟨_, SqT.of (c5 _ _ e0)⟩, fun D6 nD6 => ?_⟩
    have nD6p := fresh c5 nD6
    have rowAt : ∀ {i : Nat} {v : V}, [V.ref a, .ref b, .ref c][i]? = some v → ∃ (e : Addr) (r : List Str), v = .ref e ∧ H e = some (.tup (r.map V.str)) ∧ r ∈ M.map (·.2) := fun {i v} e => by
      match i, e with
      | 0, e => cases e; exact ⟨a, x, rfl, ea, hx⟩
      | 1, e => cases e; exact ⟨b, y, rfl, eb, hy⟩
      | 2, e => cases e; exact ⟨c, z, rfl, ec, hz⟩
    refine lc_tup (K := K) (a := t) (xs := [.ref a, .ref b, .ref c]) (fun i Hx => ∃ ys : List V, Hx D6 = some (.lst ys) ∧ ys.length = i ∧ (∀ v ∈ ys, ValD (hid D6 (hid p Hx)) 1 v) ∧ Same H5 Hx) ⟨[], upd_same, rfl, (fun v hv => nomatch hv), same_new nD6⟩ (fun i Hx _ ⟨_, _, _, _, z⟩ => SqT.of (z _ _ (c5 _ _ e0))) ?_ ?_
    · rintro i v Hx ev ⟨ys, q1', ly, hys, sx⟩
      obtain ⟨e, r, rfl, he, hr'⟩ := rowAt ev
      have i3 : i < 3 := (List.getElem?_eq_some_iff.mp ev).1
      refine ⟨rfl, ?_⟩
      refine ⟨_, rfl, e, _, rfl, .inr (SqT.of (sx _ _ (c5 _ _ he))), fun qn nn => ?_⟩
      have sn := same_new (o := .lst (r.map V.str)) nn
      have s5n : Same H (upd Hx qn (.lst (r.map V.str))) := fun b o e => sn _ _ (sx _ _ (c5 _ _ e))
      have nqp : qn ≠ p := fresh (fun b o e => sx _ _ (c5 _ _ e)) nn
      have nqD : qn ≠ D6 := fun q => by
        rw [q, q1'] at nn
        cases nn
      refine ⟨ys, sn _ _ q1', by exact len_ok (by omega), ys ++ [.ref qn], upd_same, by rw [List.length_append, ly] <;> rfl, fun v hv => ?_, fun b o e => (upd_ne (ne_of_none e nD6)).trans (sn _ _ (sx _ _ e))⟩
      refine ValD.to ?_ hid2_upd
      rcases List.mem_append.mp hv with hv | hv
      · exact (hys v hv).to (Same.hid (Same.hid sn))
      · rw [List.mem_singleton.mp hv]
        exact ValD.lst (hid_at nqD (hid_at nqp upd_same)) (by rw [List.length_map]; exact len1 r hr') (ValD.words (hK.wrd r hr'))
    rintro H6 ⟨ys, q1', ly, hys, sx⟩
    have c6 : Same H H6 := fun b o e => sx _ _ (c5 _ _ e)
    refine ⟨D6, ys, rfl, .inl ⟨SqL.of q1', fun q7 n7 => ?_⟩⟩
    have s7 : Same H6 _ := same_new (o := .tup ys) n7
    have h7 := hid_at (fresh c6 n7) (upd_same (H := H6) (a := q7) (o := .tup ys))
    have c7 : Same H (upd H6 q7 (.tup ys)) := fun b o e => s7 _ _ (c6 _ _ e)
    have y7 : ∀ v ∈ ys, ValD (hid p (upd H6 q7 (.tup ys))) 1 v := fun v hv => ((hys v hv).to (hid_same D6 _)).to (Same.hid s7)
    have s57 : Same H5 (upd H6 q7 (.tup ys)) := fun b o e => s7 _ _ (sx _ _ e)
    have ly' : ys.length = 3 := ly
    generalize upd H6 q7 (.tup ys) = H7 at s7 h7 c7 y7 s57 ⊢
    -- (told[0], told[1], None)
    refine ⟨_, rfl, t, _, _, V.ref a, rfl, rfl, SqT.of (c7 _ _ e0), rfl, _, rfl, t, _, _, V.ref b, rfl, rfl, SqT.of (c7 _ _ e0), rfl, l3, fun q8 n8 => ?_⟩
    have s8 : Same H7 _ := same_new (o := .tup [.ref a, .ref b, .non]) n8
    have h8 := hid_at (fresh c7 n8) (upd_same (H := H7) (a := q8) (o := .tup [.ref a, .ref b, .non]))
    have c8 : Same H (upd H7 q8 (.tup [.ref a, .ref b, .non])) := fun b o e => s8 _ _ (c7 _ _ e)
    generalize upd H7 q8 (.tup [.ref a, .ref b, .non]) = H8 at s8 h8 c8 ⊢
    -- (told[0], told[1], told[2] + told[2])
    have z1 : z.map V.str ≠ [] := fun q => by
      have := len z hz
      rw [List.map_eq_nil_iff.mp q] at this
      simp at this
    refine ⟨_, rfl, t, _, _, V.ref a, rfl, rfl, SqT.of (c8 _ _ e0), rfl, _, rfl, t, _, _, V.ref b, rfl, rfl, SqT.of (c8 _ _ e0), rfl, _, rfl, t, _, _, V.ref c, rfl, rfl, SqT.of (c8 _ _ e0), rfl, _, rfl, t, _, _, V.ref c, rfl, rfl, SqT.of (c8 _ _ e0), rfl, c, c, z.map V.str, z.map V.str, rfl, rfl, SqT.of (c8 _ _ ec), SqT.of (c8 _ _ ec), by rw [List.length_map, len z hz, sizeLine_eq]; omega, (fun q => absurd q z1), (fun _ q => absurd q z1), fun _ _ q9 n9 => ?_⟩
    rw [← List.map_append] at *
    have s9 : Same H8 _ := same_new (o := .tup ((z ++ z).map V.str)) n9
    have h9 := hid_at (fresh c8 n9) (upd_same (H := H8) (a := q9) (o := .tup ((z ++ z).map V.str)))
    have c9 : Same H (upd H8 q9 (.tup ((z ++ z).map V.str))) := fun b o e => s9 _ _ (c8 _ _ e)
    generalize upd H8 q9 (.tup ((z ++ z).map V.str)) = H9 at s9 h9 c9 ⊢
    refine ⟨l3, fun q10 n10 => ?_⟩
    have s10 : Same H9 _ := same_new (o := .tup [.ref a, .ref b, .ref q9]) n10
    have h10 := hid_at (fresh c9 n10) (upd_same (H := H9) (a := q10) (o := .tup [.ref a, .ref b, .ref q9]))
    have c10 : Same H (upd H9 q10 (.tup [.ref a, .ref b, .ref q9])) := fun b o e => s10 _ _ (c9 _ _ e)
    generalize upd H9 q10 (.tup [.ref a, .ref b, .ref q9]) = H10 at s10 h10 c10 ⊢
    -- the list
    refine ⟨l7, fun q11 n11 => ?_⟩
    obtain ⟨ws, ews⟩ : ∃ ws : List V, ws = [.ref q1, .ref q2, .ref q3, .ref q5, .ref q7, .ref q8, .ref q10] := ⟨_, rfl⟩
    rw [← ews]
    have s11 : Same H10 _ := same_new (o := .lst ws) n11
    have h11 := upd_same (H := H10) (a := q11) (o := .lst ws)
    have c11 : Same H (upd H10 q11 (.lst ws)) := fun b o e => s11 _ _ (c10 _ _ e)
    generalize upd H10 q11 (.lst ws) = H11 at s11 h11 c11 ⊢
    have lw : ws.length = 7 := by rw [ews] <;> rfl
    refine ⟨l, q11, vs, ws, rfl, rfl, c11 _ _ hl, h11, by rw [lw, sizeLine_eq]; omega, fun r nr => ?_⟩
    have nrp := fresh c11 nr
    have sr : Same H11 _ := same_new (o := .lst (vs ++ ws)) nr
    have hr' := upd_same (H := H11) (a := r) (o := .lst (vs ++ ws))
    have cr : Same H (upd H11 r (.lst (vs ++ ws))) := fun b o e => sr _ _ (c11 _ _ e)
    generalize upd H11 r (.lst (vs ++ ws)) = H12 at sr hr' cr ⊢
    have t10 : Same (hid p H10) (hid p H12) := fun b o e => (Same.hid sr) _ _ ((Same.hid s11) _ _ e)
    have t9 : Same (hid p H9) (hid p H12) := fun b o e => t10 _ _ ((Same.hid s10) _ _ e)
    have t8 : Same (hid p H8) (hid p H12) := fun b o e => t9 _ _ ((Same.hid s9) _ _ e)
    have t7 : Same (hid p H7) (hid p H12) := fun b o e => t8 _ _ ((Same.hid s8) _ _ e)
    have t5 : Same (hid p H5) (hid p H12) := fun b o e => t7 _ _ ((Same.hid s57) _ _ e)
    have t4 : Same (hid p H4) (hid p H12) := fun b o e => t5 _ _ ((Same.hid s5) _ _ e)
    have t3 : Same (hid p H3) (hid p H12) := fun b o e => t4 _ _ ((Same.hid s4) _ _ e)
    have t2 : Same (hid p H2) (hid p H12) := fun b o e => t3 _ _ ((Same.hid s3) _ _ e)
    have t1 : Same (hid p H1) (hid p H12) := fun b o e => t2 _ _ ((Same.hid s2) _ _ e)
    have t0 : Same (hid p H) (hid p H12) := Same.hid cr
    have va : ValD (hid p H12) 1 (.ref a) := ValD.row (t0 _ _ ga) (len1 x hx) (hK.wrd x hx)
    have vb : ValD (hid p H12) 1 (.ref b) := ValD.row (t0 _ _ gb) (len1 y hy) (hK.wrd y hy)
    have vc : ValD (hid p H12) 1 (.ref c) := ValD.row (t0 _ _ gc) (len1 z hz) (hK.wrd z hz)
    have v9 : ValD (hid p H12) 1 (.ref q9) := ValD.row (t9 _ _ h9) (by rw [List.length_append, len z hz]; omega) fun u hu => by
      rcases List.mem_append.mp hu with hu | hu <;> exact hK.wrd z hz u hu
    refine k r H12 ⟨vs ++ ws, hr', fun v hv' => ?_, by rw [List.length_append, lw]; omega, nrp⟩ cr
    rcases List.mem_append.mp hv' with hv' | hv'
    · exact (hv v hv').to t0
    · rw [ews] at hv'
      have mk : ∀ {q : Addr} {xs : List V}, (hid p H12) q = some (.tup xs) → xs.length ≤ 1000 → (∀ x ∈ xs, ValD (hid p H12) 1 x) → Val (hid p H12) (.ref q) := fun e l h => ((ValD.tup e l h).le (by decide)).val
      simp only [List.mem_cons, List.not_mem_nil, or_false] at hv'
      rcases hv' with rfl | rfl | rfl | rfl | rfl | rfl | rfl
      · refine mk (t1 _ _ h1) o3 fun x hx => ?_
        simp only [List.mem_cons, List.not_mem_nil, or_false] at hx
        rcases hx with rfl | rfl | rfl
        · exact vc
        · exact vb
        · exact va
      · refine ((ValD.lst (n := 1) (t2 _ _ h2) o3 fun x hx => ?_).le (by decide)).val
        simp only [List.mem_cons, List.not_mem_nil, or_false] at hx
        rcases hx with rfl | rfl | rfl
        · exact va
        · exact vb
        · exact vc
      · refine mk (t3 _ _ h3') o2 fun x hx => ?_
        simp only [List.mem_cons, List.not_mem_nil, or_false] at hx
        rcases hx with rfl | rfl
        · exact va
        · exact vb
      · refine mk (t5 _ _ h5) o4 fun x hx => ?_
        simp only [List.mem_cons, List.not_mem_nil, or_false] at hx
        rcases hx with rfl | rfl | rfl | rfl
        · exact va
        · exact vb
        · exact vc
        · exact va
      · exact mk (t7 _ _ h7) (by rw [ly']; exact o3) fun x hx => (y7 x hx).to t7
      · refine mk (t8 _ _ h8) o3 fun x hx => ?_
        simp only [List.mem_cons, List.not_mem_nil, or_false] at hx
        rcases hx with rfl | rfl | rfl
        · exact va
        · exact vb
        · exact ValD.non
      · refine mk (t10 _ _ h10) o3 fun x hx => ?_
        simp only [List.mem_cons, List.not_mem_nil, or_false] at hx
        rcases hx with rfl | rfl | rfl
        · exact va
        · exact vb
        · exact v9
end
end Yt

set_option Elab.async false
set_option linter.all false
set_option maxRecDepth 100000
set_option maxHeartbeats 4000000
namespace Yt
open PySem PySem.Spec PyProof.Rows L2
theorem tup_off {H : Hp} {p a : Addr} {f : Nat} {xs : List V} (h : PurseAt H p f) (e : H a = some (.tup xs)) : a ≠ p := fun z => by
  obtain ⟨_, _, _, _, e2, _⟩ := h
  rw [z, e2] at e
  cases e
theorem cut_map {α : Type} (fn : α → V) (N : List α) (lo hi : Option Int) : ∃ N' : List α, cutV (N.map fn) lo hi = N'.map fn ∧ (∀ e ∈ N', e ∈ N) ∧ N'.length ≤ N.length := by
  unfold cutV
  refine ⟨(N.drop (HT.sIx (N.map fn).length 0 lo)).take (HT.sIx (N.map fn).length (N.map fn).length hi - HT.sIx (N.map fn).length 0 lo), ?_, fun e he => List.mem_of_mem_drop (List.mem_of_mem_take he), ?_⟩
  · rw [List.map_take, List.map_drop]
  · rw [List.length_take, List.length_drop]
    omega
theorem atI_end {xs : List V} {v : V} (h : xs[xs.length - 1]? = some v) : atI xs (-1) = some v := by
  have ne : xs ≠ [] := fun e => by
    rw [e] at h
    simp at h
  have e := List.dropLast_concat_getLast ne
  have : xs.getLast ne = v := by
    rw [List.getLast_eq_getElem]
    rw [List.getElem?_eq_getElem (by have := List.length_pos_iff.mpr ne; omega)] at h
    exact Option.some.inj h
  rw [this] at e
  rw [← e]
  exact atI_last _ _
section
variable {P : Program} {w : World} {K : PySem.W.Frag} {mg : Str → Option Value} {base : Heap} {f : Addr} {fd : FuncData} {C : Addr} {cdv : Value} {A0 : Around} {outer : List Env} {s0 : Shared} {H0 : Hp} {E : XK}
variable {p A pt L dw : Addr} {ms : List Str} {d : Nat} {M : List (Addr × List Str)} {g : Str → Str → Str → Str} {m : List (List Key × V)} {fu n : Nat}
/-- what is not in the rows, as it is filtered -/
theorem st_k6 (Cs : CalK P w K mg base C) (T : Nm mg) (T6 : Nm6 mg) (hr : RoomK A0 s0 f cdv) : PS (KX P w K mg base f cdv A0 outer s0 H0 E) (kSt 6)
    (fun D σ H => ∃ (u6 u7 u8 u9 u10 u11 u12 u13 u14 u15 u16 : Option V), σ = [some (.ref p), some (.ref A), some (.ref pt), some (.ref L), some (.ref dw), some (.int ((d + 1 : Nat) : Int)), u6, u7, u8, u9, u10, u11, u12, u13, u14, u15, u16] ∧ PurseAt H p fu ∧ KS C (hid p H) A pt L dw ms d M g m ∧
      ∀ (q : Addr) (N : List (Addr × List Str)) (H' : Hp), RowsAt (hid p H') q N → RowsOk ms (d + 1) (N.map (·.2)) → N.length ≤ 27 → Same H H' → D.nx [some (.ref p), some (.ref A), some (.ref pt), some (.ref L), some (.ref dw), some (.int ((d + 1 : Nat) : Int)), u6, u7, u8, u9, u10, u11, some (.ref q), u13, u14, u15, u16] H') := by
  obtain ⟨fE, dE, GE, bE, kE, gE⟩ := Cs.every.ex
  have hu := hu_of hr
  refine pstW (ps_set (i := 12) scKept.nd rfl (Or.inl rfl) (pe_ifExp (pt_cmpR op_lt (pv 5) pe_int (nomark _))
      (pe_slice sl_list (pe_lc (own := [("_law_row_here", 11)]) (g := gName 11) (tt := tTest (tOp (rNInRows K) (tVar 11) (tVar 3))) (te := tVar 11) rfl scKept.nd (pi_list (pe_call GE (hr.mono (by decide)) rfl gE kE bE .nil pass0 (pa_cons (pv 1) (pa_cons (pv 5) pa_nil)))) (blkOk_by (own := [("_law_row_here", 11)]) (N := krN) (sc := defScope sLKept) (by decide +kernel))
        (fun _ _ _ _ _ => pg_name (i := 11) scKept.nd rfl (Or.inl rfl)) (fun _ _ _ _ _ => pts_one (pt_cmpR (op_notin_rows hu) (pv 11) (pv 3) (by rfl))) (fun _ _ _ _ _ => pv 11)) po_none (po_some pe_int))
      (pe_lst pa_nil))) fun D σ H h => ?_
  obtain ⟨u6, u7, u8, u9, u10, u11, u12, u13, u14, u15, u16, rfl, hP, hK, k⟩ := h
  have ks := hK.to (hid_same p H)
  have d3 := hK.d3
  refine ⟨_, rfl, _, _, rfl, rfl, true, by show V.bl (decide (((d + 1 : Nat) : Int) < 4)) = _; rw [decide_eq_true (by omega)], ?_⟩
  refine iteT ?_
  refine ⟨_, rfl, _, rfl, A, ms, d + 1, rfl, ks.a, ks.few, by omega, fun L1 M1 H1 nL1 hL1 eM1 s1 => ?_⟩
  have nL1' : L1 ≠ p := hP.ne nL1
  have l27 : M1.length ≤ 27 := by
    have := congrArg List.length eM1
    rw [List.length_map, rowsN_len] at this
    rw [this]
    exact Nat.le_trans (Nat.pow_le_pow_left ks.few _) (Nat.le_trans (Nat.pow_le_pow_right (by decide) (show d + 1 ≤ 3 by omega)) (by decide))
  have k1 := ks.to s1
  refine ⟨L1, rfl, ⟨_, SqL.of hL1.1⟩, fun D2 nD2 => ?_⟩
  refine lc_list (K := K) (a := L1) (xs := M1.map fun e => V.ref e.1) (fun i Hx => ∃ N : List (Addr × List Str), Hx D2 = some (.lst (N.map fun e => V.ref e.1)) ∧ N.length ≤ i ∧ (∀ e ∈ N, e ∈ M1) ∧ Same H1 Hx) ⟨[], upd_same, Nat.le_refl _, (fun e he => nomatch he), same_new nD2⟩ (fun i Hx _ ⟨_, _, _, _, z⟩ => SqL.of (z _ _ hL1.1)) ?_ ?_
  · rintro i v Hx ev ⟨N, hN, lN, sub, sx⟩
    rw [List.getElem?_map] at ev
    obtain ⟨e, ee, rfl⟩ := Option.map_eq_some_iff.mp ev
    have em := List.mem_of_getElem? ee
    have i27 : i < M1.length := (List.getElem?_eq_some_iff.mp ee).1
    refine ⟨rfl, ?_⟩
    have kx := k1.to sx
    refine ⟨_, rfl, _, rfl, e.1, L, e.2, M, rfl, rfl, sx _ _ (hL1.2 e em), kx.l.1, kx.l.2, ?_⟩
    by_cases c : e.2 ∈ M.map (·.2)
    · rw [decide_eq_true c]
      refine ⟨false, rfl, ?_⟩
      refine iteF ?_
      exact ⟨N, hN, by omega, sub, sx⟩
    · rw [decide_eq_false c]
      refine ⟨true, rfl, ?_⟩
      refine iteT ?_
      refine ⟨_, rfl, _, hN, by rw [List.length_map]; exact len_ok (by omega), N ++ [e], by rw [upd_same, List.map_append] <;> rfl, by rw [List.length_append]; simp only [List.length_singleton]; omega, fun u hu => ?_, fun b o z => (upd_ne (ne_of_none z nD2)).trans (sx _ _ z)⟩
      rcases List.mem_append.mp hu with hu | hu
      · exact sub u hu
      · rw [List.mem_singleton.mp hu]
        exact em
  · rintro Hx ⟨N, hN, lN, sub, sx⟩
    rw [List.length_map] at lN
    obtain ⟨N', eN, sub', lN'⟩ := cut_map (fun e : Addr × List Str => V.ref e.1) N none (some 3)
    refine ⟨_, rfl, D2, _, rfl, SqL.of hN, fun q nq => ?_⟩
    rw [eN]
    have sq : Same Hx _ := same_new (o := .lst (N'.map fun e => V.ref e.1)) nq
    have c0 : Same H Hx := fun b o e => sx _ _ (s1 _ _ e)
    have hPx : PurseAt Hx p fu := hP.to fun o z => c0 _ _ z
    have nqp := hPx.ne nq
    have rows : ∀ e ∈ N', Hx e.1 = some (.tup (e.2.map V.str)) := fun e he => sx _ _ (hL1.2 e (sub e (sub' e he)))
    refine k q N' _ ⟨hid_at nqp upd_same, fun e he => hid_at (tup_off hPx (rows e he)) (sq _ _ (rows e he))⟩ (fun r hr => ?_) (by omega) fun b o e => sq _ _ (c0 _ _ e)
    obtain ⟨e, he, rfl⟩ := List.mem_map.mp hr
    have : e.2 ∈ rowsN ms (d + 1) := by
      rw [← eM1]
      exact List.mem_map.mpr ⟨e, sub e (sub' e he), rfl⟩
    exact (rowsN_mem ms (d + 1) _).mp this
theorem st_k7 (Cs : CalK P w K mg base C) (T : Nm mg) (T6 : Nm6 mg) (hr : RoomK A0 s0 f cdv) (hn : n ≤ 100) : PS (KX P w K mg base f cdv A0 outer s0 H0 E) (kSt 7)
    (fun D σ H => ∃ (u5 u6 u7 u8 u9 u11 u13 u14 u15 u16 : Option V) (l q : Addr) (N : List (Addr × List Str)), σ = [some (.ref p), some (.ref A), some (.ref pt), some (.ref L), some (.ref dw), u5, u6, u7, u8, u9, some (.ref l), u11, some (.ref q), u13, u14, u15, u16] ∧ PurseAt H p fu ∧ KS C (hid p H) A pt L dw ms d M g m ∧ ValsAt p n H l ∧ RowsAt (hid p H) q N ∧ RowsOk ms (d + 1) (N.map (·.2)) ∧ N.length ≤ 27 ∧
      ∀ (l' : Addr) (v11 : Option V) (H' : Hp), ValsAt p (n + 54) H' l' → Same H H' → D.nx [some (.ref p), some (.ref A), some (.ref pt), some (.ref L), some (.ref dw), u5, u6, u7, u8, u9, some (.ref l'), v11, some (.ref q), u13, u14, u15, u16] H') := by
  have hu := hu_of hr
  refine pstW (ps_for PassesOwn.never rfl (pi_list (pv 12)) (pg_name (i := 11) scKept.nd rfl (Or.inl rfl))
      (pss_one (ps_set (i := 10) scKept.nd rfl (Or.inl rfl) (pe_op op_cat (pv 10) (pe_lst (pa_cons (pe_tup (pa_cons (pv 11) (pa_cons (pv 11) (pa_cons (pv 11) pa_nil))))
        (pa_cons (pe_ifExp (pt_cmpR (op_neD hr.units) (pv 3) (pe_lst pa_nil) (nomark _)) (pe_tup (pa_cons (pe_ix ix_list (pv 3) pe_int (fun _ _ => rfl)) (pa_cons (pe_ix ix_list (pv 3) (pe_un un_neg pe_int) (fun _ _ => rfl)) (pa_cons (pv 11) pa_nil)))) (pe_tup (pa_cons (pv 11) (pa_cons (pv 11) (pa_cons (pv 11) pa_nil))))) pa_nil))))))) fun D σ H h => ?_
  obtain ⟨u5, u6, u7, u8, u9, u11, u13, u14, u15, u16, l, q, N, rfl, hP, hK, hV, hN, okN, lN, k⟩ := h
  have l0 : 0 ≤ sizeLine := by decide
  have l2 : 2 ≤ sizeLine := by decide
  have l3 : 3 ≤ sizeLine := by decide
  have o3 : (3 : Nat) ≤ 1000 := by decide
  have d3 := hK.d3
  have hN' := hN.to (hid_same p H)
  refine ⟨_, rfl, q, rfl, ⟨_, SqL.of hN'.1⟩, for_list (K := K) (a := q) (xs := N.map fun e => V.ref e.1) (fun i σ Hx => ∃ (v11 : Option V) (li : Addr), σ = [some (.ref p), some (.ref A), some (.ref pt), some (.ref L), some (.ref dw), u5, u6, u7, u8, u9, some (.ref li), v11, some (.ref q), u13, u14, u15, u16] ∧ ValsAt p (n + 2 * i) Hx li ∧ Same H Hx)
    ⟨u11, l, rfl, hV, fun _ _ e => e⟩ (fun i σ Hx _ ⟨_, _, _, _, z⟩ => SqL.of (z _ _ hN'.1)) ?_ ?_⟩
  · rintro i v σ Hx ev ⟨v11, li, rfl, hVi, sx⟩
    rw [List.getElem?_map] at ev
    obtain ⟨e, ee, rfl⟩ := Option.map_eq_some_iff.mp ev
    have em := List.mem_of_getElem? ee
    have i27 : i < N.length := (List.getElem?_eq_some_iff.mp ee).1
    obtain ⟨vs, hl, hv, lv, nl⟩ := hVi
    have oke := okN _ (List.mem_map.mpr ⟨e, em, rfl⟩)
    have he := hN.2 e em
    have fresh : ∀ {Hc : Hp} {D : Addr}, Same H Hc → Hc D = none → D ≠ p := fun {Hc D} s n => (hP.to fun o z => s _ _ z).ne n
    -- (row, row, row)
    refine ⟨_, rfl, _, rfl, _, rfl, _, rfl, l3, fun q1 n1 => ?_⟩
    have s1 : Same Hx _ := same_new (o := .tup [.ref e.1, .ref e.1, .ref e.1]) n1
    have h1 := hid_at (fresh sx n1) (upd_same (H := Hx) (a := q1) (o := .tup [.ref e.1, .ref e.1, .ref e.1]))
    have c1 : Same H (upd Hx q1 (.tup [.ref e.1, .ref e.1, .ref e.1])) := fun b o e => s1 _ _ (sx _ _ e)
    generalize upd Hx q1 (.tup [.ref e.1, .ref e.1, .ref e.1]) = H1 at s1 h1 c1 ⊢
    -- rows != []
    refine ⟨_, rfl, l0, fun q2 n2 => ?_⟩
    have s2 : Same H1 _ := same_new (o := .lst []) n2
    have h2 := upd_same (H := H1) (a := q2) (o := .lst [])
    have c2 : Same H (upd H1 q2 (.lst [])) := fun b o e => s2 _ _ (c1 _ _ e)
    generalize upd H1 q2 (.lst []) = H2 at s2 h2 c2 ⊢
    have k2 := (hK.to (Same.hid c2)).to (hid_same p H2)
    have shR : SeqAt.shaped (.list ((M.map (·.2)).map rowD)) = true := rows_shaped k2.wrd
    have rest : ∀ (q3 : Addr) (xs : List V), H2 q3 = none → xs.length = 3 → (∀ {G : Hp}, Same (hid p H) G → ∀ x ∈ xs, ValD G 1 x) → 2 ≤ sizeLine ∧ ∀ q4, (upd H2 q3 (.tup xs)) q4 = none → ∃ (a b : Addr) (ys zs : List V), V.ref li = .ref a ∧ V.ref q4 = .ref b ∧ (upd (upd H2 q3 (.tup xs)) q4 (.lst [.ref q1, .ref q3])) a = some (.lst ys) ∧ (upd (upd H2 q3 (.tup xs)) q4 (.lst [.ref q1, .ref q3])) b = some (.lst zs) ∧ ys.length + zs.length ≤ sizeLine ∧
        ∀ r, (upd (upd H2 q3 (.tup xs)) q4 (.lst [.ref q1, .ref q3])) r = none → ∃ (v11 : Option V) (li' : Addr), [some (V.ref p), some (.ref A), some (.ref pt), some (.ref L), some (.ref dw), u5, u6, u7, u8, u9, some (.ref r), some (.ref e.1), some (.ref q), u13, u14, u15, u16] = [some (.ref p), some (.ref A), some (.ref pt), some (.ref L), some (.ref dw), u5, u6, u7, u8, u9, some (.ref li'), v11, some (.ref q), u13, u14, u15, u16] ∧ ValsAt p (n + 2 * (i + 1)) (upd (upd (upd H2 q3 (.tup xs)) q4 (.lst [.ref q1, .ref q3])) r (.lst (ys ++ zs))) li' ∧ Same H (upd (upd (upd H2 q3 (.tup xs)) q4 (.lst [.ref q1, .ref q3])) r (.lst (ys ++ zs))) := by
      intro q3 xs n3 lx vx
      refine ⟨l2, fun q4 n4 => ?_⟩
      have s3 : Same H2 _ := same_new (o := .tup xs) n3
      have h3 := hid_at (fresh c2 n3) (upd_same (H := H2) (a := q3) (o := .tup xs))
      have c3 : Same H (upd H2 q3 (.tup xs)) := fun b o e => s3 _ _ (c2 _ _ e)
      generalize upd H2 q3 (.tup xs) = H3 at s3 h3 c3 n4 ⊢
      have s4 : Same H3 _ := same_new (o := .lst [.ref q1, .ref q3]) n4
      have h4 := upd_same (H := H3) (a := q4) (o := .lst [.ref q1, .ref q3])
      have c4 : Same H (upd H3 q4 (.lst [.ref q1, .ref q3])) := fun b o e => s4 _ _ (c3 _ _ e)
      generalize upd H3 q4 (.lst [.ref q1, .ref q3]) = H4 at s4 h4 c4 ⊢
      have x4 : Same Hx H4 := fun b o e => s4 _ _ (s3 _ _ (s2 _ _ (s1 _ _ e)))
      refine ⟨li, q4, vs, [.ref q1, .ref q3], rfl, rfl, x4 _ _ hl, h4, by rw [sizeLine_eq]; simp only [List.length_cons, List.length_nil]; omega, fun r nr => ?_⟩
      have sr : Same H4 _ := same_new (o := .lst (vs ++ [.ref q1, .ref q3])) nr
      have hr' := upd_same (H := H4) (a := r) (o := .lst (vs ++ [.ref q1, .ref q3]))
      have cr : Same H (upd H4 r (.lst (vs ++ [.ref q1, .ref q3]))) := fun b o e => sr _ _ (c4 _ _ e)
      generalize upd H4 r (.lst (vs ++ [.ref q1, .ref q3])) = H5 at sr hr' cr ⊢
      refine ⟨_, r, rfl, ⟨_, hr', fun v hv' => ?_, by rw [List.length_append]; simp only [List.length_cons, List.length_nil]; omega, fresh c4 nr⟩, cr⟩
      have t3 : Same (hid p H3) (hid p H5) := fun b o e => (Same.hid sr) _ _ ((Same.hid s4) _ _ e)
      have t1 : Same (hid p H1) (hid p H5) := fun b o e => t3 _ _ ((Same.hid s3) _ _ ((Same.hid s2) _ _ e))
      have tx : Same (hid p Hx) (hid p H5) := fun b o e => t1 _ _ ((Same.hid s1) _ _ e)
      rcases List.mem_append.mp hv' with hv' | hv'
      · exact (hv v hv').to tx
      · simp only [List.mem_cons, List.not_mem_nil, or_false] at hv'
        rcases hv' with rfl | rfl
        · refine ((ValD.tup (n := 1) (t1 _ _ h1) o3 fun x hx => ?_).le (by decide)).val
          simp only [List.mem_cons, List.not_mem_nil, or_false, or_self] at hx
          rw [hx]
          exact ValD.row ((Same.hid cr) _ _ he) (by rw [oke.1]; omega) fun z hz => hK.ok.2.2.2 z (oke.2 z hz)
        · exact ((ValD.tup (n := 1) (t3 _ _ h3) (by rw [lx]; exact o3) (vx (Same.hid cr))).le (by decide)).val
    have ve : ∀ {G : Hp}, Same (hid p H) G → ValD G 1 (.ref e.1) := fun s => ValD.row (s _ _ he) (by rw [oke.1]; omega) fun z hz => hK.ok.2.2.2 z (oke.2 z hz)
    refine ⟨_, .list [], .lst (SqL.of k2.l.1) (dp_rows k2.l.2), .lst (SqL.of h2) .nil, shR, by decide +kernel, ?_⟩
    by_cases c : 0 < M.length
    · refine ⟨true, ?_, ?_⟩
      · match M, c with
        | e :: M, _ => simp [PyData.eqv, PyData.eqvAll]
      refine iteT ?_
      have f1 : (M.map fun e => V.ref e.1)[0]? = some (.ref (M[0]'c).1) := by rw [List.getElem?_map, List.getElem?_eq_getElem c] <;> rfl
      have cl : M.length - 1 < M.length := by omega
      have f2 : (M.map fun e => V.ref e.1)[(M.map fun e => V.ref e.1).length - 1]? = some (.ref (M[M.length - 1]'cl).1) := by rw [List.length_map, List.getElem?_map, List.getElem?_eq_getElem cl] <;> rfl
      refine ⟨_, rfl, L, _, _, _, rfl, rfl, SqL.of k2.l.1, atI_nat (j := 0) f1, _, rfl, _, rfl, L, _, _, _, rfl, rfl, SqL.of k2.l.1, atI_end f2, _, rfl, l3, fun q3 n3 => ?_⟩
      have := rest q3 [.ref (M[0]'c).1, .ref (M[M.length - 1]'cl).1, .ref e.1] n3 rfl fun {G} sG x hx => by
        have kg := hK.to sG
        simp only [List.mem_cons, List.not_mem_nil, or_false] at hx
        rcases hx with rfl | rfl | rfl
        · exact kg.row (List.getElem_mem c)
        · exact kg.row (List.getElem_mem cl)
        · exact ve sG
      exact this
    · refine ⟨false, ?_, ?_⟩
      · have : M = [] := List.eq_nil_of_length_eq_zero (by omega)
        subst this
        rfl
      refine iteF ?_
      refine ⟨_, rfl, _, rfl, _, rfl, l3, fun q3 n3 => ?_⟩
      exact rest q3 [.ref e.1, .ref e.1, .ref e.1] n3 rfl fun {G} sG x hx => by
        simp only [List.mem_cons, List.not_mem_nil, or_false, or_self] at hx
        rw [hx]
        exact ve sG
  · rintro σ Hx ⟨v11, li, rfl, ⟨vs, hl, hv, lv, nl⟩, sx⟩
    rw [List.length_map] at lv
    exact k li v11 Hx ⟨vs, hl, hv, by omega, nl⟩ sx
end
end Yt

set_option Elab.async false
set_option linter.all false
set_option maxRecDepth 100000
set_option maxHeartbeats 4000000
namespace Yt
open PySem PySem.Spec PyProof.Rows L2
theorem WhyV.to {g : Str → Str → Str → Str} {rs : List (List Str)} {H H' : Hp} {v : V} (h : WhyV g rs H v) (s : Same H H') : WhyV g rs H' v := by
  obtain ⟨x, hx, y, hy, z, hz, h, n⟩ := h
  exact ⟨x, hx, y, hy, z, hz, h.to s, n⟩
theorem Dv.tup_back {H H' : Hp} (s : Same H H') {a : Addr} {D : PyData} {xs : List V} (h : Dv H (.ref a) D) (e : H' a = some (.tup xs)) : H a = some (.tup xs) := by
  cases h with
  | lst e0 _ =>
    rw [s _ _ e0] at e
    cases e
  | tup e0 _ =>
    rw [s _ _ e0] at e
    rw [e0, Option.some.inj e]
theorem Three.back {H H' : Hp} (s : Same H H') {v : V} {x y z : List Str} (hv : Val H v) (h : Three H' v x y z) : Three H v x y z := by
  obtain ⟨t, a, b, c, rfl, h1, h2, h3, h4⟩ := h
  rcases hv with ⟨D, hD, _⟩ | ⟨t', e, hd⟩
  · have e1 := Dv.tup_back s hD h1
    cases hD with
    | lst e0 _ =>
      rw [e0] at e1
      cases e1
    | tup e0 ha =>
      rw [e0] at e1
      cases e1
      cases ha with
      | cons ha hr =>
        cases hr with
        | cons hb hr =>
          cases hr with
          | cons hc hr => exact ⟨t, a, b, c, rfl, e0, Dv.tup_back s ha h2, Dv.tup_back s hb h3, Dv.tup_back s hc h4⟩
  · cases e
    rw [s _ _ hd] at h1
    cases h1
section
variable {P : Program} {w : World} {K : PySem.W.Frag} {mg : Str → Option Value} {base : Heap} {f : Addr} {fd : FuncData} {C : Addr} {cdv : Value} {A0 : Around} {outer : List Env} {s0 : Shared} {H0 : Hp} {E : XK}
variable {p A pt L dw : Addr} {ms : List Str} {d : Nat} {M : List (Addr × List Str)} {g : Str → Str → Str → Str} {m : List (List Key × V)} {fu n : Nat}
open Classical in
theorem st_k8 (Cs : CalK P w K mg base C) (T : Nm mg) (T6 : Nm6 mg) (hr : RoomK A0 s0 f cdv) : PS (KX P w K mg base f cdv A0 outer s0 H0 E) (kSt 8)
    (fun D σ H => ∃ (u5 u6 u8 u9 u11 u12 u13 u14 u15 u16 : Option V) (dl l : Addr), σ = [some (.ref p), some (.ref A), some (.ref pt), some (.ref L), some (.ref dw), u5, u6, some (.ref dl), u8, u9, some (.ref l), u11, u12, u13, u14, u15, u16] ∧ KS C (hid p H) A pt L dw ms d M g m ∧ H dl = some (.dT m.reverse) ∧ ValsAt p n H l ∧
      ∀ (v13 v14 v15 : Option V) (H' : Hp), Same H H' → D.nx [some (.ref p), some (.ref A), some (.ref pt), some (.ref L), some (.ref dw), u5, u6, some (.ref dl), u8, u9, some (.ref l), u11, u12, v13, v14, v15, u16] H') := by
  obtain ⟨fS, dS, GS, bS, kS, gS⟩ := Cs.same.ex
  obtain ⟨fI, dI, GI, bI, kI, gI⟩ := Cs.is3.ex
  obtain ⟨fG, dG, GG, bG, kG, gG⟩ := Cs.given.ex
  obtain ⟨fY, dY, GY, bY, kY, gY⟩ := Cs.isWhy.ex
  obtain ⟨fX, dX, GX, bX, kX, gX⟩ := Cs.ex.ex
  have hu := hu_of hr
  refine pstW (ps_for PassesOwn.never rfl (pi_list (pv 10)) (pg_name (i := 13) scKept.nd rfl (Or.inl rfl))
      (pss_cons (ps_set (i := 14) scKept.nd rfl (Or.inl rfl) (pe_call GS (hr.mono (by decide)) rfl gS kS bS .nil pass0 (pa_cons (pv 13) pa_nil)))
      (pss_cons (ps_set (i := 15) scKept.nd rfl (Or.inl rfl) (pe_and (pe_call GI (hr.mono (by decide)) rfl gI kI bI .nil pass0 (pa_cons (pv 3) (pa_cons (pv 13) pa_nil)))
        (pe_one (pe_cmpR (op_notin_rows hu) (pe_call GG (hr.mono (by decide)) rfl gG kG bG .nil pass0 (pa_cons (pv 4) (pa_cons (pv 13) pa_nil))) (pv 3) (by rfl)))))
      (pss_one (ps_if (pt_not (pt_val (pe_call GX (hr.mono (by decide)) rfl gX kX bX .nil pass0 (pa_cons (pe_lst (pa_cons (pe_call GY (hr.mono (by decide)) rfl gY kY bY .nil pass0 (pa_cons (pv 2) (pa_cons (pv 7) (pa_cons (pv 13) pa_nil)))) (pa_cons (pv 13) pa_nil)))
        (pa_cons (pe_lst (pa_cons (pv 15) (pa_cons (pv 14) pa_nil))) pa_nil))))) (pss_one (ps_ret pe_bl)) pss_nil))))) fun D σ H h => ?_
  obtain ⟨u5, u6, u8, u9, u11, u12, u13, u14, u15, u16, dl, l, rfl, hK, hdl, ⟨vs, hl, hv, lv, nl⟩, k⟩ := h
  have ks := hK.to (hid_same p H)
  have l2 : 2 ≤ sizeLine := by decide
  have o2 : (2 : Nat) ≤ 1000 := by decide
  have d3 := hK.d3
  refine ⟨_, rfl, l, rfl, ⟨_, SqL.of hl⟩, for_list (K := K) (a := l) (xs := vs) (fun i σ Hx => ∃ (v13 v14 v15 : Option V), σ = [some (.ref p), some (.ref A), some (.ref pt), some (.ref L), some (.ref dw), u5, u6, some (.ref dl), u8, u9, some (.ref l), u11, u12, v13, v14, v15, u16] ∧ Same H Hx)
    ⟨_, _, _, rfl, fun _ _ e => e⟩ (fun i σ Hx _ ⟨_, _, _, _, z⟩ => SqL.of (z _ _ hl)) ?_ ?_⟩
  · rintro i v σ Hx ev ⟨v13, v14, v15, rfl, sx⟩
    have vv : Val Hx v := ((hv v (List.mem_of_getElem? ev)).to (hid_same p H)).to sx
    have kx := ks.to sx
    -- noted
    refine ⟨_, rfl, v, [], rfl, vv.vl, (fun c hc => nomatch hc), fun y H1 ex1 s1 => ?_⟩
    have v1 := vv.to s1
    have k1 := kx.to s1
    -- right
    obtain ⟨bT, ebT⟩ : ∃ bT : Bool, bT = decide (ThreeIn (M.map (·.2)) H1 v) := ⟨_, rfl⟩
    have hbT : bT = true ↔ ThreeIn (M.map (·.2)) H1 v := by rw [ebT, decide_eq_true_iff]
    have fin : ∀ (bR : Bool) (H2 : Hp), Same H1 H2 → (bR = true ↔ WhyV g (M.map (·.2)) H1 v) → ∃ (p' dw' : Addr) (x : V) (ms' : List Str) (d' : Nat) (rs : List (List Str)) (g' : Str → Str → Str → Str) (b : Bool), [V.ref pt, .ref dl, v] = [.ref p', .ref dw', x] ∧ TableAt C H2 p' ms' d' rs ∧ MarksOk ms' ∧ d' ≤ 3 ∧ RowsOk ms' (d' + 1) rs ∧ WayOk H2 dw' ms' g' ∧ Val H2 x ∧ (b = true ↔ WhyV g' rs H2 x) ∧
        ∀ H3, Same H2 H3 → ∃ v', some v = some v' ∧ 2 ≤ sizeLine ∧ ∀ q1, H3 q1 = none → ∃ v2, some (V.bl bR) = some v2 ∧ ∃ v3, some y = some v3 ∧ 2 ≤ sizeLine ∧ ∀ q2, (upd H3 q1 (.lst [.bl b, v'])) q2 = none → ∃ (A' : List Addr) (x y : V), [V.ref q1, V.ref q2] = [x, y] ∧ Ex (upd (upd H3 q1 (.lst [.bl b, v'])) q2 (.lst [v2, v3])) 4 A' x y ∧ ∀ H', Same (upd (upd H3 q1 (.lst [.bl b, v'])) q2 (.lst [v2, v3])) H' → Same H H' := by
      intro bR H2 s2 hbR
      have k2 := k1.to s2
      have e2 : Same H H2 := fun b o e => s2 _ _ (s1 _ _ (sx _ _ e))
      have back : WhyV g (M.map (·.2)) H2 v → WhyV g (M.map (·.2)) H1 v := fun ⟨x, hx, y, hy, z, hz, h, n⟩ => ⟨x, hx, y, hy, z, hz, Three.back s2 v1 h, n⟩
      refine ⟨pt, dl, v, ms, d, _, g, bR, rfl, k2.t, k2.ok, by omega, k2.rok, (ks.lent hdl).to e2, v1.to s2, ⟨fun h => (hbR.mp h).to s2, fun h => hbR.mpr (back h)⟩, fun H3 s3 => ⟨_, rfl, l2, fun q1 n1 => ?_⟩⟩
      have sq1 : Same H3 _ := same_new (o := .lst [.bl bR, v]) n1
      have hq1 := upd_same (H := H3) (a := q1) (o := .lst [.bl bR, v])
      generalize upd H3 q1 (.lst [.bl bR, v]) = H4 at sq1 hq1 ⊢
      refine ⟨_, rfl, _, rfl, l2, fun q2 n2 => ?_⟩
      have sq2 : Same H4 _ := same_new (o := .lst [.bl bR, y]) n2
      have hq2 := upd_same (H := H4) (a := q2) (o := .lst [.bl bR, y])
      generalize upd H4 q2 (.lst [.bl bR, y]) = H5 at sq2 hq2 ⊢
      have s15 : Same H1 H5 := fun b o e => sq2 _ _ (sq1 _ _ (s3 _ _ (s2 _ _ e)))
      refine ⟨[], _, _, rfl, .inr (.inl ⟨q1, q2, _, _, rfl, rfl, by simp, by simp, sq2 _ _ hq1, hq2, .cons (Ex.leaf rfl) (.cons (ex1.to fun c o _ h => s15 _ _ h) .nil), o2⟩), fun H6 s6 b o e => s6 _ _ (s15 _ _ (s1 _ _ (sx _ _ e)))⟩
    refine ⟨_, rfl, _, rfl, L, v, M, bT, rfl, k1.l, k1.wrd, v1, hbT, fun H2 s2 => ?_⟩
    have k2 := k1.to s2
    refine ⟨_, rfl, ?_⟩
    by_cases c : ThreeIn (M.map (·.2)) H1 v
    · rw [hbT.mpr c]
      refine iteT ?_
      obtain ⟨x, hx, y', hy, z, hz, t, a, b, c', rfl, h1, h2, h3, h4⟩ := id c
      refine ⟨_, rfl, _, rfl, dw, t, a, b, c', ms, g, d + 1, x, y', z, rfl, k2.way.at_, s2 _ _ h1, s2 _ _ h2, s2 _ _ h3, s2 _ _ h4, (k2.rok x hx).1, (k2.rok y' hy).1, (k2.rok z hz).1, by omega, (k2.rok x hx).2, (k2.rok y' hy).2, (k2.rok z hz).2, fun T0 H3 nT hT s3 => ?_⟩
      have k3 := k2.to s3
      refine ⟨_, rfl, T0, L, _, M, rfl, rfl, hT, k3.l.1, k3.l.2, ?_⟩
      obtain ⟨p', dw', x1, ms', d', rs, g', bq, w1, w2, w3, w4, w5, w6, w7, w8, w9⟩ := fin (!decide (gvn g x y' z ∈ M.map (·.2))) H3 (fun b o e => s3 _ _ (s2 _ _ e)) (by rw [WhyV.iff hx hy hz ⟨t, a, b, c', rfl, h1, h2, h3, h4⟩]; simp)
      refine ⟨_, rfl, _, rfl, _, rfl, p', dw', x1, ms', d', rs, g', bq, w1, w2, w3, w4, w5, w6, w7, w8, fun H4 s4 => ?_⟩
      obtain ⟨v', e1, l2', w10⟩ := w9 H4 s4
      refine ⟨v', congrArg some e1, l2', fun q1 n1 => ?_⟩
      obtain ⟨v2, e2, v3, e3, _, w11⟩ := w10 q1 n1
      refine ⟨v2, congrArg some e2, v3, congrArg some e3, l2, fun q2 n2 => ?_⟩
      obtain ⟨A', xx, yy, r1, r2, r3⟩ := w11 q2 n2
      exact ⟨A', xx, yy, r1, r2, fun H5 s5 => ⟨true, rfl, ⟨_, _, _, rfl, r3 H5 s5⟩⟩⟩
    · rw [Bool.eq_false_iff.mpr fun z => c (hbT.mp z)]
      refine iteF ?_
      obtain ⟨p', dw', x1, ms', d', rs, g', bq, w1, w2, w3, w4, w5, w6, w7, w8, w9⟩ := fin false H2 s2 ⟨(fun z => nomatch z), fun z => absurd z.in_ c⟩
      refine ⟨_, rfl, _, rfl, _, rfl, p', dw', x1, ms', d', rs, g', bq, w1, w2, w3, w4, w5, w6, w7, w8, fun H4 s4 => ?_⟩
      obtain ⟨v', e1, l2', w10⟩ := w9 H4 s4
      refine ⟨v', congrArg some e1, l2', fun q1 n1 => ?_⟩
      obtain ⟨v2, e2, v3, e3, _, w11⟩ := w10 q1 n1
      refine ⟨v2, congrArg some e2, v3, congrArg some e3, l2, fun q2 n2 => ?_⟩
      obtain ⟨A', xx, yy, r1, r2, r3⟩ := w11 q2 n2
      exact ⟨A', xx, yy, r1, r2, fun H5 s5 => ⟨true, rfl, ⟨_, _, _, rfl, r3 H5 s5⟩⟩⟩
  · rintro σ Hx ⟨v13, v14, v15, rfl, sx⟩
    exact k v13 v14 v15 Hx sx
end
end Yt

set_option Elab.async false
set_option linter.all false
set_option maxRecDepth 100000
set_option maxHeartbeats 4000000
namespace Yt
open PySem PySem.Spec PyProof.Rows L2
theorem KS.mem {C : Addr} {G : Hp} {A pt L dw : Addr} {ms : List Str} {d : Nat} {M : List (Addr × List Str)} {g : Str → Str → Str → Str} {m : List (List Key × V)} (k : KS C G A pt L dw ms d M g m) : ∀ x ∈ ms, ∀ y ∈ ms, ∀ z ∈ ms, g x y z ∈ ms := fun x hx y hy z hz => by
  obtain ⟨u, hu, e⟩ := k.w.2.2 _ (valV_mem (k.v x hx y hy z hz))
  have e : V.str (g x y z) = V.str u := e
  rw [V.str.inj e]
  exact hu
theorem closed_rowsN {ms : List Str} {g : Str → Str → Str → Str} {n : Nat} (hg : ∀ x ∈ ms, ∀ y ∈ ms, ∀ z ∈ ms, g x y z ∈ ms) : ClosedG g (rowsN ms n) := fun x hx y hy z hz => by
  obtain ⟨a1, a2⟩ := (rowsN_mem ms n x).mp hx
  obtain ⟨b1, b2⟩ := (rowsN_mem ms n y).mp hy
  obtain ⟨c1, c2⟩ := (rowsN_mem ms n z).mp hz
  exact (rowsN_mem ms n _).mpr ⟨gvn_len a1 b1 c1, gvn_over hg a2 b2 c2⟩
theorem why_end {g : Str → Str → Str → Str} {rs : List (List Str)} {H : Hp} {Q : VK} {p : Addr} {f : Nat} (hP : PurseAt H p f) (k : ∀ t H', Told8 g rs (hid p H') t → Same H H' → Q t H') : WhyEnd g rs H Q :=
  ⟨fun cl H' s => k .non H' (.inl ⟨rfl, cl⟩) s, fun x hx y hy z hz nc T a b c H' nT hT ha hb hc s => by
    have hP' : PurseAt H' p f := hP.to fun o z => s _ _ z
    exact k (.ref T) H' (.inr ⟨x, hx, y, hy, z, hz, ⟨T, a, b, c, rfl, hid_at (tup_off hP' hT) hT, hid_at (tup_off hP' ha) ha, hid_at (tup_off hP' hb) hb, hid_at (tup_off hP' hc) hc⟩, nc⟩) s⟩
/-- the law's look at a table and a way -/
def spLKept (C : Addr) : Sp := fun vs H Q _ => ∃ (p A pt L dw : Addr) (ms : List Str) (d : Nat) (M : List (Addr × List Str)) (g : Str → Str → Str → Str) (m : List (List Key × V)) (fu : Nat), vs = [.ref p, .ref A, .ref pt, .ref L, .ref dw] ∧ PurseAt H p (fu + 12) ∧ KS C (hid p H) A pt L dw ms d M g m ∧
  ∀ H', PurseAt H' p fu → But p H H' → Q (.bl true) H'
section
variable {P : Program} {w : World} {K : PySem.W.Frag} {mg : Str → Option Value} {base : Heap} {f : Addr} {fd : FuncData} {C : Addr} {cdv : Value} {A0 : Around} {outer : List Env} {s0 : Shared} {H0 : Hp} {E : XK}
variable {p A pt L dw : Addr} {ms : List Str} {d : Nat} {M : List (Addr × List Str)} {g : Str → Str → Str → Str} {m : List (List Key × V)} {fu n : Nat}
open Classical in
theorem st_k10 (Cs : CalK P w K mg base C) (T : Nm mg) (T6 : Nm6 mg) (hr : RoomK A0 s0 f cdv) : PS (KX P w K mg base f cdv A0 outer s0 H0 E) (kSt 10)
    (fun D σ H => ∃ (u6 u7 u8 u10 u11 u12 u13 u14 u15 u16 : Option V) (q : Addr) (us : List (List Str)), σ = [some (.ref p), some (.ref A), some (.ref pt), some (.ref L), some (.ref dw), some (.int ((d + 1 : Nat) : Int)), u6, u7, u8, some (.ref q), u10, u11, u12, u13, u14, u15, u16] ∧ KS C (hid p H) A pt L dw ms d M g m ∧ TableAt C H q ms d us ∧ (∀ r ∈ M.map (·.2), r ∈ us) ∧ ClosedG g us ∧ (∀ W : List (List Str), ClosedG g W → (∀ r ∈ M.map (·.2), r ∈ W) → ∀ r ∈ us, r ∈ W) ∧
      ∀ H' : Hp, Same H H' → D.nx σ H') := by
  obtain ⟨fI, dI, GI, bI, kI, gI⟩ := Cs.is.ex
  obtain ⟨fP, dP, GP, bP, kP, gP⟩ := Cs.plain.ex
  obtain ⟨fK, dK, GK, bK, kK, gK⟩ := Cs.keeps.ex
  have hu := hu_of hr
  refine pstW (ps_if (PW.pt (pw_or (pt_not (pt_val (pe_call GI (hr.mono (by decide)) rfl gI kI bI .nil pass0 (pa_cons (pv 9) (pa_cons (pv 1) (pa_cons (pv 5) (pa_cons (pe_call GP (hr.mono (by decide)) rfl gP kP bP .nil pass0 (pa_cons (pv 4) (pa_cons (pv 3) pa_nil))) pa_nil)))))))
      (pw_or1 (pt_cmpR op_notBl (pe_call GK (hr.mono (by decide)) rfl gK kK bK .nil pass0 (pa_cons (pv 9) (pa_cons (pv 4) pa_nil))) pe_bl (nomark _))))) (pss_one (ps_ret pe_bl)) pss_nil) fun D σ H h => ?_
  obtain ⟨u6, u7, u8, u10, u11, u12, u13, u14, u15, u16, q, us, rfl, hK, T1, b1, c1, le1, k⟩ := h
  have ks := hK.to (hid_same p H)
  have d3 := hK.d3
  have uok : RowsOk ms (d + 1) us := fun r hr => (rowsN_mem ms (d + 1) r).mp (le1 (rowsN ms (d + 1)) (closed_rowsN hK.mem) (fun r hr => (rowsN_mem ms (d + 1) r).mpr (hK.rok r hr)) r hr)
  have l81 := rowsN_few uok T1.up.nodup hK.few (by omega)
  refine ⟨_, rfl, _, rfl, _, rfl, _, rfl, _, rfl, dw, L, ms, g, d, M, rfl, ks.way.at_, hK.mem, hK.ok, hK.few, by omega, ks.l, hK.rok, hK.t.up.nodup, fun L1 N H1 nL1 hL1 RN upN bN cN leN s1 => ?_⟩
  have eu : us = N.map (·.2) := least_one T1.up upN b1 bN c1 cN le1 leN
  refine ⟨q, A, L1, ms, d, us, N, rfl, T1.to s1, s1 _ _ ks.a, hL1, RN, upN.nodup, fun r => by rw [eu], hK.few, by omega, fun H2 s2 => ⟨true, rfl, ?_⟩⟩
  refine iteF ?_
  have s02 : Same H H2 := fun b o e => s2 _ _ (s1 _ _ e)
  have k2 := ks.to s02
  refine ⟨_, rfl, _, rfl, q, dw, ms, d, us, g, true, rfl, T1.to s02, hK.ok, by omega, by omega, uok, k2.way, ⟨fun _ => c1, fun _ => rfl⟩, fun H3 s3 => ?_⟩
  refine ⟨true, true, rfl, rfl, false, rfl, ?_⟩
  refine iteF ?_
  exact k H3 fun b o e => s3 _ _ (s02 _ _ e)
open Classical in
theorem ok_kept (F : FnP K "_law_kept_right" sLKept f fd) (Cs : CalK P w K mg base C) (T : Nm mg) (T6 : Nm6 mg) :
    FnOk P w K mg base CX0 9 f fd ["_law_purse_here", "_law_marks_here", "_law_table", "_law_rows", "_law_way"] (spLKept C) := by
  obtain ⟨fW, dW, GW, bW, kW, gW⟩ := Cs.why.ex
  obtain ⟨fC, dC, GC, bC, kC, gC⟩ := Cs.closed.ex
  obtain ⟨fI, dI, GI, bI, kI, gI⟩ := Cs.is.ex
  refine F.ok scKept (fun vs H Q E h => ?_) (fun cdv A0 outer s H vs Q E hr h => ?_)
  · obtain ⟨p, A, pt, L, dw, ms, d, M, g, m, fu, rfl, _⟩ := h
    rfl
  · obtain ⟨p, A, pt, L, dw, ms, d, M, g, m, fu, rfl, hP, hK, k⟩ := h
    refine ⟨_, PSs.nox (pss_cons (st_k0 (p := p) (A := A) (pt := pt) (L := L) (dw := dw) (ms := ms) (d := d) (M := M) (g := g) (m := m) (fu := fu + 12) Cs T T6 hr)
      (pss_cons (ps_set (i := 8) scKept.nd rfl (Or.inl rfl) (pe_call GW (hr.mono (by decide)) rfl gW kW bW .nil pass0 (pa_cons (pv 2) (pa_cons (pv 7) pa_nil))))
      (pss_cons (st_k2 (p := p) (A := A) (pt := pt) (L := L) (dw := dw) (ms := ms) (d := d) (M := M) (g := g) (m := m) Cs T T6 hr)
      (pss_cons (st_k3 (p := p) (A := A) (pt := pt) (L := L) (dw := dw) (ms := ms) (d := d) (M := M) (g := g) (m := m) Cs T T6 hr)
      (pss_cons (st_k4 (p := p) (A := A) (pt := pt) (L := L) (dw := dw) (ms := ms) (d := d) (M := M) (g := g) (m := m) (fu := fu) Cs T T6 hr)
      (pss_cons (st_k5 (p := p) (A := A) (pt := pt) (L := L) (dw := dw) (ms := ms) (d := d) (M := M) (g := g) (m := m) (fu := fu) (n := 16) Cs T T6 hr (by decide))
      (pss_cons (st_k6 (p := p) (A := A) (pt := pt) (L := L) (dw := dw) (ms := ms) (d := d) (M := M) (g := g) (m := m) (fu := fu) Cs T T6 hr)
      (pss_cons (st_k7 (p := p) (A := A) (pt := pt) (L := L) (dw := dw) (ms := ms) (d := d) (M := M) (g := g) (m := m) (fu := fu) (n := 23) Cs T T6 hr (by decide))
      (pss_cons (st_k8 (p := p) (A := A) (pt := pt) (L := L) (dw := dw) (ms := ms) (d := d) (M := M) (g := g) (m := m) (n := 77) Cs T T6 hr)
      (pss_cons (ps_set (i := 9) scKept.nd rfl (Or.inl rfl) (pe_call GC (hr.mono (by decide)) rfl gC kC bC .nil pass0 (pa_cons (pv 2) (pa_cons (pv 7) pa_nil))))
      (pss_cons (st_k10 (p := p) (A := A) (pt := pt) (L := L) (dw := dw) (ms := ms) (d := d) (M := M) (g := g) (m := m) Cs T T6 hr)
      (pss_one (ps_ret (pe_call GI (hr.mono (by decide)) rfl gI kI bI .nil pass0 (pa_cons (pv 2) (pa_cons (pv 1) (pa_cons (pv 5) (pa_cons (pv 3) pa_nil)))))))))))))))))), ?_⟩
    have d3 := hK.d3
    refine ⟨_, _, _, _, _, _, _, _, _, _, _, _, rfl, hP, hK, fun u dl H1 eu ndl hdl s1 => ?_⟩
    have K1 := hK.to (Same.hid s1)
    have k1 := K1.to (hid_same p H1)
    have lM := hK.lM
    refine ⟨_, rfl, _, rfl, pt, dl, ms, d, _, g, rfl, k1.t, k1.ok, by omega, by rw [List.length_map]; omega, k1.rok, k1.lent hdl, ?_⟩
    refine why_end (p := p) (hP.to fun o z => s1 _ _ z) fun t H2 tld s2 => ?_
    have K2 := K1.to (Same.hid s2)
    have s02 : Same H H2 := fun b o e => s2 _ _ (s1 _ _ e)
    have et := tld.iff
    refine ⟨_, _, _, _, _, _, _, _, _, u, t, dl, rfl, K2, eu, et, s2 _ _ hdl, fun H3 s3 => ?_⟩
    refine ⟨_, _, _, _, _, _, _, _, _, _, _, t, rfl, K2.to (Same.hid s3), tld.to (Same.hid s3), fun H4 s4 => ?_⟩
    have s24 : Same H2 H4 := fun b o e => s4 _ _ (s3 _ _ e)
    have s04 : Same H H4 := fun b o e => s24 _ _ (s02 _ _ e)
    refine ⟨_, _, _, _, _, _, _, _, _, _, _, t, rfl, hP.to fun o z => s04 _ _ z, K2.to (Same.hid s24), tld.to (Same.hid s24), fun l5 H5 hV5 hP5 b5 => ?_⟩
    have hd5 := b5 _ _ ndl (s24 _ _ (s2 _ _ hdl))
    have h25 : Same (hid p H2) (hid p H5) := fun b o e => (But.hid b5) _ _ ((Same.hid s24) _ _ e)
    refine ⟨_, _, _, _, _, _, _, _, _, _, t, l5, rfl, hP5, K2.to h25, tld.to h25, hV5, fun l6 H6 hV6 s6 => ?_⟩
    have hP6 : PurseAt H6 p fu := hP5.to fun o z => s6 _ _ z
    have h26 : Same (hid p H2) (hid p H6) := fun b o e => (Same.hid s6) _ _ (h25 _ _ e)
    refine ⟨_, _, _, _, _, _, _, _, _, _, _, rfl, hP6, K2.to h26, fun q N H7 hN okN lN s7 => ?_⟩
    have hP7 : PurseAt H7 p fu := hP6.to fun o z => s7 _ _ z
    have h27 : Same (hid p H2) (hid p H7) := fun b o e => (Same.hid s7) _ _ (h26 _ _ e)
    obtain ⟨vs, g1, g2, g3, g4⟩ := hV6
    refine ⟨_, _, _, _, _, _, _, _, _, _, l6, q, N, rfl, hP7, K2.to h27, ⟨vs, s7 _ _ g1, fun v hv => (g2 v hv).to (Same.hid s7), g3, g4⟩, hN, okN, lN, fun l8 v11 H8 hV8 s8 => ?_⟩
    have s58 : Same H5 H8 := fun b o e => s8 _ _ (s7 _ _ (s6 _ _ e))
    have h28 : Same (hid p H2) (hid p H8) := fun b o e => (Same.hid s8) _ _ (h27 _ _ e)
    refine ⟨_, _, _, _, _, _, _, _, _, _, dl, l8, rfl, K2.to h28, s58 _ _ hd5, hV8, fun v13 v14 v15 H9 s9 => ?_⟩
    have s59 : Same H5 H9 := fun b o e => s9 _ _ (s58 _ _ e)
    have h29 : Same (hid p H2) (hid p H9) := fun b o e => (Same.hid s9) _ _ (h28 _ _ e)
    have K9 := K2.to h29
    have k9 := K9.to (hid_same p H9)
    refine ⟨_, rfl, _, rfl, pt, dl, ms, d, _, g, rfl, k9.t, k9.ok, k9.few, by omega, k9.rok, k9.lent (s59 _ _ hd5), hK.mem, fun q' H10 us nq T10 b10 c10 le10 s10 => ?_⟩
    have K10 := K9.to (Same.hid s10)
    refine ⟨_, _, _, _, _, _, _, _, _, _, q', us, rfl, K10, T10, b10, c10, le10, fun H11 s11 => ?_⟩
    have k11 := (K10.to (Same.hid s11)).to (hid_same p H11)
    have s511 : Same H5 H11 := fun b o e => s11 _ _ (s10 _ _ (s59 _ _ e))
    refine ⟨_, rfl, _, rfl, _, rfl, _, rfl, pt, A, L, ms, d, _, M, rfl, k11.t, k11.a, k11.l.1, ⟨k11.l.2, fun e he => (k11.len he).1, by omega⟩, k11.t.up.nodup, (fun r => Iff.rfl), k11.few, by omega, fun H12 s12 => ?_⟩
    have s512 : Same H5 H12 := fun b o e => s12 _ _ (s511 _ _ e)
    exact k H12 (hP5.to fun o z => s512 _ _ z) fun b o nb e => s512 _ _ (b5 _ _ nb (s04 _ _ e))
end
end Yt

set_option Elab.async false
set_option linter.all false
set_option maxRecDepth 100000
set_option maxHeartbeats 2000000
namespace Yt
open PySem PySem.Spec PyProof.Rows L2
/-- the one in the middle of three numbers -/
def med (i j l : Int) : Int := max (min i j) (min (max i j) l)
theorem perm_sum {xs ys : List Int} (p : xs.Perm ys) : xs.sum = ys.sum := by
  induction p with
  | nil => rfl
  | cons x _ ih => rw [List.sum_cons, List.sum_cons, ih]
  | swap x y l =>
    simp only [List.sum_cons]
    omega
  | trans _ _ h1 h2 => exact h1.trans h2
theorem med_of {ns : List Int} {i j l : Int} (p : ns.Perm [i, j, l]) (s : ns.Pairwise (· ≤ ·)) : ns[1]? = some (med i j l) := by
  have hl := p.length_eq
  match ns, hl with
  | [a, b, c], _ =>
    have h1 := List.pairwise_cons.mp s
    have h2 := List.pairwise_cons.mp h1.2
    have ab := h1.1 b (by simp)
    have bc := h2.1 c (by simp)
    have sm := perm_sum p
    simp only [List.sum_cons, List.sum_nil] at sm
    have ia : i ∈ [a, b, c] := p.mem_iff.mpr (by simp)
    have ja : j ∈ [a, b, c] := p.mem_iff.mpr (by simp)
    have la : l ∈ [a, b, c] := p.mem_iff.mpr (by simp)
    have ai : a ∈ [i, j, l] := p.mem_iff.mp (by simp)
    have ci : c ∈ [i, j, l] := p.mem_iff.mp (by simp)
    simp only [List.mem_cons, List.not_mem_nil, or_false] at ia ja la ai ci
    show some b = some (med i j l)
    unfold med
    congr 1
    omega
/-- the one in the middle of a row of three, as they stand in an order -/
def idx (os : List Str) (z : Str) : Int := ((os.findIdx fun y => decide (y = z) : Nat) : Int)
def midOf (os : List Str) : List Key → V
  | [.inr x, .inr y, .inr z] => (os.map V.str).getD (med (idx os x) (idx os y) (idx os z)).toNat .non
  | _ => .non
theorem idx_at {os : List Str} {z : Str} (h : z ∈ os) : ∃ j : Nat, idx os z = j ∧ os[j]? = some z ∧ ∀ (m : Nat) (y : Str), m < j → os[m]? = some y → y ≠ z := by
  have lt : (os.findIdx fun y => decide (y = z)) < os.length := List.findIdx_lt_length_of_exists ⟨z, h, by simp⟩
  refine ⟨_, rfl, ?_, fun m y hm hy e => ?_⟩
  · have := List.findIdx_getElem (w := lt)
    have e := of_decide_eq_true this
    rw [List.getElem?_eq_getElem lt, e]
  · have := List.not_of_lt_findIdx hm
    obtain ⟨h1, h2⟩ := List.getElem?_eq_some_iff.mp hy
    rw [h2, e] at this
    simp at this
def spMid (K : PySem.W.Frag) : Sp := fun vs H Q _ => ∃ (t o : Addr) (os : List Str) (x y z : Str), vs = [.ref t, .ref o] ∧ H t = some (.tup [.str x, .str y, .str z]) ∧ H o = some (.lst (os.map V.str)) ∧ x ∈ os ∧ y ∈ os ∧ z ∈ os ∧ os.length ≤ 1000 ∧ ∀ H', Same H H' → Q (midOf os [.inr x, .inr y, .inr z]) H'
theorem med_in (i j l : Int) : med i j l = i ∨ med i j l = j ∨ med i j l = l := by
  unfold med
  omega
/-- a way's items, put in one behind the other -/
theorem way_more {ms : List Str} (nd : (growN ms 3).Nodup) {g : List Key → V} {i : Nat} {k : List Key} (e : (growN ms 3)[i]? = some k) : putK (((growN ms 3).take i).map fun k => (k, g k)) k (g k) = ((growN ms 3).take (i + 1)).map fun k => (k, g k) := by
  have et : (growN ms 3).take (i + 1) = (growN ms 3).take i ++ [k] := by rw [List.take_add_one, e] <;> rfl
  have fresh : k ∉ (((growN ms 3).take i).map fun k => (k, g k)).map (·.1) := by
    rw [List.map_map]
    intro z
    obtain ⟨k', hk', e'⟩ := List.mem_map.mp z
    have e2 : k' = k := e'
    rw [e2] at hk'
    rw [← List.take_append_drop (i + 1) (growN ms 3), et] at nd
    exact (List.nodup_append.mp (List.nodup_append.mp nd).1).2.2 k hk' k (List.mem_singleton.mpr rfl) rfl
  rw [putK_new fresh, et, List.map_append]
  rfl
end Yt

set_option Elab.async false
set_option linter.all false
set_option maxRecDepth 100000
set_option maxHeartbeats 2000000
namespace Yt
open PySem PySem.Spec PyProof.Rows L2
theorem way_keys (ms : List Str) (g : List Key → V) : (wayOf ms g).map (·.1) = growN ms 3 := by
  unfold wayOf
  rw [List.map_map]
  exact List.map_id _
theorem make_tableA {C : Addr} {H : Hp} {a l : Addr} {d : Nat} {ms : List Str} {M0 : List (Addr × List Str)} {Q : Addr → Hp → Prop} {E : XK} (ha : H a = some (.lst (ms.map V.str))) (ok : MarksOk ms) (hd : d ≤ 3) (hl : H l = some (.lst (M0.map fun e => V.ref e.1))) (hR : RowsIn H d M0) (over : ∀ e ∈ M0, ∀ z ∈ e.2, z ∈ ms)
    (k : ∀ (p : Addr) (H' : Hp) (rs : List (List Str)), H p = none → (∀ r, r ∈ rs ↔ r ∈ M0.map (·.2)) → TableAt C H' p ms d rs → Same H H' → Q p H') :
    ∀ x dx, H x = none → H dx = none → dx ≠ x → spTInit C (.ref x :: ([.ref a, .int ((d + 1 : Nat) : Int), .ref l] ++ [])) (upd (upd H dx (.own x)) x (.ins C dx [])) (fun v H2 => v = .non ∧ Q x H2) E := by
  intro x dx nx ndx ne
  have s : Same H (upd (upd H dx (.own x)) x (.ins C dx [])) := fun b o e => by
    rw [upd_ne (ne_of_none e nx), upd_ne (ne_of_none e ndx)]
    exact e
  exact ⟨x, dx, a, l, d, ms, M0, rfl, upd_same, s _ _ ha, ok, hd, s _ _ hl, hR.to s, over, fun H' rs mem T b => ⟨rfl, k x H' rs nx mem T fun c o e => b _ _ (ne_of_none e nx) (s _ _ e)⟩⟩
theorem way_val {ms : List Str} (hm : MarksOk ms) (g : List Key → V) {k : List Key} (hk : k ∈ growN ms 3) : valV (wayOf ms g) k = some (g k) := by
  obtain ⟨i, e⟩ := List.mem_iff_getElem?.mp hk
  refine valV_at (i := i) (by rw [way_keys]; exact growN_nodup hm.2.2.1.nodup 3) ?_
  unfold wayOf
  rw [List.getElem?_map, e]
  rfl
theorem way_in {ms : List Str} {g : List Key → V} {H : Hp} {d : Addr} (hd : H d = some (.dT (wayOf ms g))) (hg : ∀ k ∈ growN ms 3, ∃ z ∈ ms, g k = .str z) : WayIn H d ms (wayOf ms g) := by
  refine ⟨hd, by rw [way_keys], fun e he => ?_⟩
  obtain ⟨k, hk, rfl⟩ := List.mem_map.mp he
  exact hg k hk
theorem grow_mem3 {ms : List Str} {x y z : Str} (hx : x ∈ ms) (hy : y ∈ ms) (hz : z ∈ ms) : ([Sum.inr x, Sum.inr y, Sum.inr z] : List Key) ∈ growN ms 3 := by
  have put : ∀ {L : List (List Key)} {s : List Key} {c : Str}, s ∈ L → c ∈ ms → s ++ [Sum.inr c] ∈ grow ms L := fun hs hc => List.mem_flatMap.mpr ⟨_, hs, List.mem_map.mpr ⟨_, hc, rfl⟩⟩
  exact put (put (put (List.mem_singleton.mpr rfl) hx) hy) hz
theorem mid_str {os : List Str} {x y z : Str} (hx : x ∈ os) (hy : y ∈ os) (hz : z ∈ os) : ∃ c ∈ os, midOf os [.inr x, .inr y, .inr z] = .str c ∧ (c = x ∨ c = y ∨ c = z) ∧ med (idx os x) (idx os y) (idx os z) = idx os c := by
  obtain ⟨c, hc, h3, em⟩ : ∃ c ∈ os, (c = x ∨ c = y ∨ c = z) ∧ med (idx os x) (idx os y) (idx os z) = idx os c := by
    rcases med_in (idx os x) (idx os y) (idx os z) with h | h | h
    · exact ⟨x, hx, .inl rfl, h⟩
    · exact ⟨y, hy, .inr (.inl rfl), h⟩
    · exact ⟨z, hz, .inr (.inr rfl), h⟩
  obtain ⟨j, ej, hj, _⟩ := idx_at hc
  refine ⟨c, hc, ?_, h3, em⟩
  show (os.map V.str).getD (med (idx os x) (idx os y) (idx os z)).toNat .non = _
  rw [em, ej, Int.toNat_natCast, List.getD_eq_getElem?_getD, List.getElem?_map, hj]
  rfl
theorem idx_inj {os : List Str} {x y : Str} (hx : x ∈ os) (hy : y ∈ os) (h : idx os x = idx os y) : x = y := by
  obtain ⟨j, ej, hj, _⟩ := idx_at hx
  obtain ⟨l, el, hl, _⟩ := idx_at hy
  rw [ej, el] at h
  have : j = l := by omega
  subst this
  rw [hj] at hl
  exact Option.some.inj hl
theorem mid_maj {os : List Str} {x y z c : Str} (hx : x ∈ os) (hy : y ∈ os) (hz : z ∈ os) (h : twiceV x y z = .str c) : midOf os [.inr x, .inr y, .inr z] = .str c := by
  obtain ⟨e, he, h1, _, h3⟩ := mid_str hx hy hz
  rw [h1]
  congr 1
  unfold twiceV at h
  have hc : c ∈ os ∧ med (idx os x) (idx os y) (idx os z) = idx os c := by
    split at h
    · rename_i q
      cases V.str.inj h
      rcases q with rfl | rfl
      · exact ⟨hx, by unfold med; omega⟩
      · exact ⟨hx, by unfold med; omega⟩
    · split at h
      · rename_i q
        cases V.str.inj h
        subst q
        exact ⟨hy, by unfold med; omega⟩
      · cases h
  rw [hc.2] at h3
  exact (idx_inj he hc.1 h3.symm)
theorem mid_in {ms os : List Str} (hp : os.Perm ms) : ∀ k ∈ growN ms 3, ∃ z ∈ ms, midOf os k = .str z := fun k hk => by
  obtain ⟨x, y, z, hx, hy, hz, rfl⟩ := grow3_form hk
  obtain ⟨c, hc, h, _⟩ := mid_str (hp.mem_iff.mpr hx) (hp.mem_iff.mpr hy) (hp.mem_iff.mpr hz)
  exact ⟨c, hp.mem_iff.mp hc, h⟩
end Yt

set_option Elab.async false
set_option linter.all false
set_option maxRecDepth 100000
set_option maxHeartbeats 2000000
namespace Yt
open PySem PySem.Spec PyProof.Rows L2
abbrev sLawMid : Stmt := top 51
def spLawMid : Sp := fun vs H Q _ => ∃ (o : Addr) (ms os : List Str), vs = [.ref o] ∧ H o = some (.lst (os.map V.str)) ∧ MarksOk ms ∧ os.Perm ms ∧ ∀ (L : Addr) (H' : Hp), H L = none → H' L = some (.dT (wayOf ms (midOf os))) → Same H H' → Q (.ref L) H'
theorem lt_asym {a b : List Nat} (h : ltCps a b = true) : ltCps b a = false := by
  cases e : ltCps b a with
  | false => rfl
  | true =>
    have := lt_tr h e
    rw [lt_irr] at this
    cases this
/-- there is one way to put marks in their order -/
theorem asc_uniq : ∀ {xs ys : List Str}, Asc xs → Asc ys → xs.Perm ys → xs = ys
  | [], ys, _, _, p => (List.nil_perm.mp p).symm
  | x :: xs, [], _, _, p => absurd (List.perm_nil.mp p) (by simp)
  | x :: xs, y :: ys, hx, hy, p => by
    have h1 := List.pairwise_cons.mp hx
    have h2 := List.pairwise_cons.mp hy
    have e : x = y := by
      have mx : x ∈ y :: ys := p.mem_iff.mp List.mem_cons_self
      have my : y ∈ x :: xs := p.mem_iff.mpr List.mem_cons_self
      rcases List.mem_cons.mp mx with e | mx
      · exact e
      · rcases List.mem_cons.mp my with e | my
        · exact e.symm
        · have a1 := h2.1 x mx
          have a2 := h1.1 y my
          rw [lt_asym a1] at a2
          cases a2
    subst e
    rw [asc_uniq h1.2 h2.2 (List.perm_cons x |>.mp p)]
section
variable {P : Program} {w : World} {K : PySem.W.Frag} {mg : Str → Option Value} {base : Heap} {f : Addr} {fd : FuncData}
theorem scLawMid : FnScope ["_law_order", "_law_found", "_law_some", "_law_mark"] ["_law_order"] (defScope sLawMid) := ⟨rfl, rfl, rfl, by decide +kernel, rfl, by decide +kernel, by decide +kernel⟩
theorem ok_lawmid {fT : Addr} {dT : FuncData} (F : FnP K "_law_middle" sLawMid f fd) (hso : mg "sorted" = none)
    (GT : FnOk P w K mg base CX0 1 fT dT ["_law_marks_here"] (spThrees K)) (bT : Binds K dT ["_law_marks_here"] []) (kT : PySem.W.keepIn K (.ref fT) = true) (gT : mg "_law_threes" = some (.ref fT)) :
    FnOk P w K mg base CX0 2 f fd ["_law_order"] spLawMid := by
  refine F.ok scLawMid (fun vs H Q E h => ?_) (fun cdv A outer s H vs Q E hr h => ?_)
  · obtain ⟨o, ms, os, rfl, _⟩ := h
    rfl
  · obtain ⟨o, ms, os, rfl, ho, hm, hp, k⟩ := h
    have hu := hu_of hr
    refine ⟨_, PSs.nox (pss_cons (ps_set (i := 1) scLawMid.nd rfl (Or.inl rfl) pe_dnewT)
      (pss_cons (ps_for PassesOwn.never rfl (pi_list (pe_call GT hr rfl gT kT bT .nil pass0 (pa_cons (pe_callB cr_sortedS (by rfl) hso (by decide +kernel) (pa_cons (pv 0) pa_nil)) pa_nil))) (pg_name (i := 2) scLawMid.nd rfl (Or.inl rfl))
        (pss_one (ps_dput hu (pv 1) (pv 2) (pe_ix ix_list (pv 0) (pe_ix ix_list (pe_callB cr_sorted (by rfl) hso (by decide +kernel) (pa_cons (pe_lc (own := [("_law_mark", 3)]) (g := gName 3) (tt := tYes) (te := tBM K "list" (rIndex K) (tVar 0) (tCons (tVar 3) tNil)) rfl scLawMid.nd (pi_tup (pv 2)) (blkOk_by (own := [("_law_mark", 3)]) (N := ["_law_order", "_law_found", "_law_some", "_law_mark"]) (sc := defScope sLawMid) (by decide +kernel))
          (fun _ _ _ _ _ => pg_name (i := 3) scLawMid.nd rfl (Or.inl rfl)) (fun _ _ _ _ _ => pts_nil) (fun _ _ _ _ _ => pe_bm PySem.F.plainAttrs_list PySem.F.slot_list_index PySem.F.type_list_index mt_index (pv 0) (pa_cons (pv 3) pa_nil))) pa_nil)) pe_int (fun _ _ => rfl)) (fun _ _ => rfl)) rfl)))
      (pss_one (ps_ret (pv 1))))), ?_⟩
    refine fun L nL => ?_
    have sL := same_new (o := .dT []) nL
    have hoL := sL _ _ ho
    have few5 := hm.2.1
    refine ⟨_, rfl, o, os, rfl, SqL.of hoL, by rw [hp.length_eq]; omega, fun ss p perm sorted np => ?_⟩
    have es : ss = ms := asc_uniq (asc_of (perm.nodup_iff.mpr (hp.nodup_iff.mpr hm.2.2.1.nodup)) sorted) hm.2.2.1 (perm.trans hp)
    subst es
    have sp := same_new (o := .lst (ss.map V.str)) np
    refine ⟨p, ss, rfl, SqL.of upd_same, hm.2.1, fun T ts H3 nT hT pT s3 => ?_⟩
    have LT : L ≠ T := fun q => by
      rw [← q] at nT
      rw [sp _ _ upd_same] at nT
      cases nT
    have h3L := s3 _ _ (sp _ _ (upd_same (H := H) (a := L) (o := .dT [])))
    have nd := growN_nodup hm.2.2.1.nodup 3
    have few : (growN ss 3).length ≤ 125 := by
      rw [growN_len]
      exact Nat.pow_le_pow_left hm.2.1 3
    refine ⟨T, rfl, ⟨_, SqL.of hT⟩, for_list (K := K) (a := T) (xs := ts.map V.ref) (fun i σ Hc => ∃ v2 v3 : Option V, σ = [some (.ref o), some (.ref L), v2, v3] ∧ Hc L = some (.dT (((growN ss 3).take i).map fun k => (k, midOf os k))) ∧ But L H3 Hc)
      ⟨none, none, rfl, h3L, But.refl L H3⟩ (fun i σ Hc _ ⟨_, _, _, _, z⟩ => SqL.of (z _ _ LT.symm hT)) ?_ ?_⟩
    · rintro i u σ Hc hi ⟨v2, v3, rfl, hL, hB⟩
      rw [List.getElem?_map] at hi
      obtain ⟨t, et, rfl⟩ := Option.map_eq_some_iff.mp hi
      obtain ⟨kk, ek, ht0⟩ := paired_at' pT et
      have ilt : i < (growN ss 3).length := (List.getElem?_eq_some_iff.mp ek).1
      obtain ⟨x, y, z, hx', hy', hz', rfl⟩ := grow3_form (List.mem_of_getElem? ek)
      have hx := hp.mem_iff.mpr hx'
      have hy := hp.mem_iff.mpr hy'
      have hz := hp.mem_iff.mpr hz'
      have tL : t ≠ L := fun q => by
        have z : H3 t = some (.tup _) := ht0
        rw [q, h3L] at z
        cases z
      have ht : Hc t = some (.tup [V.str x, V.str y, V.str z]) := hB _ _ tL ht0
      have oL : o ≠ L := ne_of_none ho nL
      have hoc : Hc o = some (.lst (os.map V.str)) := hB _ _ oL (s3 _ _ (sp _ _ hoL))
      have xyz : [V.str x, V.str y, V.str z] = [x, y, z].map V.str := rfl
      refine ⟨_, rfl, _, rfl, t, rfl, ⟨_, SqT.of ht⟩, fun D hD => ?_⟩
      refine lc_tup (K := K) (a := t) (xs := [V.str x, V.str y, V.str z]) (fun i Hx => Hx D = some (.lst ((([x, y, z].take i).map (idx os)).map V.int)) ∧ Same Hc Hx) ⟨upd_same, same_new hD⟩ (fun i Hx _ q => SqT.of (q.2 _ _ ht)) ?_ ?_
      · rintro i v Hx hv ⟨q1, q2⟩
        rw [xyz, List.getElem?_map] at hv
        obtain ⟨c, ec, rfl⟩ := Option.map_eq_some_iff.mp hv
        have hi : i < 3 := (List.getElem?_eq_some_iff.mp ec).1
        have hc : c ∈ os := by
          have := List.mem_of_getElem? ec
          simp only [List.mem_cons, List.not_mem_nil, or_false] at this
          rcases this with rfl | rfl | rfl
          · exact hx
          · exact hy
          · exact hz
        obtain ⟨j, ej, hj, before⟩ := idx_at hc
        have hox := q2 _ _ hoc
        refine ⟨rfl, ?_⟩
        refine ⟨_, rfl, .inl ⟨rfl, _, SqL.of hox⟩, _, rfl, o, os.map V.str, .str c, j, .str c, rfl, rfl, SqL.of hox, rfl, flat_strs' os, by rw [List.getElem?_map, hj] <;> rfl, beq_self_eq_true c, fun m z' hm hz' => ?_, ?_⟩
        · rw [List.getElem?_map] at hz'
          obtain ⟨y', ey, rfl⟩ := Option.map_eq_some_iff.mp hz'
          show (y' == c) = false
          exact beq_eq_false_iff_ne.mpr (before m y' hm ey)
        · refine ⟨_, q1, ?_, ?_, fun b o e => (upd_ne (ne_of_none e hD)).trans (q2 _ _ e)⟩
          · rw [List.length_map, List.length_map, List.length_take]
            exact len_ok (by simp only [List.length_cons, List.length_nil]; omega)
          · rw [upd_same, List.take_add_one, ec, List.map_append, List.map_append, ← ej]
            rfl
      · rintro Hx ⟨q1, q2⟩
        have q1 : Hx D = some (.lst ([idx os x, idx os y, idx os z].map V.int)) := q1
        refine ⟨D, _, rfl, SqL.of q1, (by show 3 < 64; decide), fun ns p perm sorted np => ?_⟩
        have hmed := med_of perm sorted
        obtain ⟨c, hc, em⟩ : ∃ c ∈ os, med (idx os x) (idx os y) (idx os z) = idx os c := by
          rcases med_in (idx os x) (idx os y) (idx os z) with h | h | h
          · exact ⟨x, hx, h⟩
          · exact ⟨y, hy, h⟩
          · exact ⟨z, hz, h⟩
        obtain ⟨j, ej, hj, _⟩ := idx_at hc
        have sq := same_new (o := .lst (ns.map V.int)) np
        have hv : (os.map V.str)[j]? = some (V.str c) := by rw [List.getElem?_map, hj] <;> rfl
        have e1 : midOf os [.inr x, .inr y, .inr z] = V.str c := by
          show (os.map V.str).getD (med (idx os x) (idx os y) (idx os z)).toNat .non = _
          rw [em, ej, Int.toNat_natCast, List.getD_eq_getElem?_getD, hv] <;> rfl
        have hL4 := sq _ _ (q2 _ _ hL)
        refine ⟨p, ns.map V.int, 1, .int (med (idx os x) (idx os y) (idx os z)), rfl, rfl, SqL.of upd_same, atI_nat (j := 1) (by rw [List.getElem?_map, hmed] <;> rfl), o, os.map V.str, _, V.str c, rfl, rfl, SqL.of (sq _ _ (q2 _ _ hoc)), ?_, ?_⟩
        · rw [em, ej]
          exact atI_nat hv
        · refine ⟨_, rfl, _, rfl, L, _, rfl, DPut.t (k := [Sum.inr x, Sum.inr y, Sum.inr z]) hL4 (sq _ _ (q2 _ _ ht)) ?_, _, _, rfl, ?_, fun b o n e => (upd_ne n).trans (sq _ _ (q2 _ _ (hB _ _ n e)))⟩
          · rw [List.length_map, List.length_take]
            exact len_ok (by omega)
          · rw [upd_same, ← e1, way_more nd ek]
    · rintro σ Hc ⟨v2, v3, rfl, hL, hB⟩
      rw [List.length_map, Paired.length pT, List.take_length] at hL
      exact ⟨_, rfl, k L Hc nL hL fun b o e => hB _ _ (ne_of_none e nL) (s3 _ _ (sp _ _ (sL _ _ e)))⟩
end
end Yt

set_option Elab.async false
set_option linter.all false
set_option maxRecDepth 100000
set_option maxHeartbeats 2000000
namespace Yt
open PySem PySem.Spec PyProof.Rows L2
abbrev sPicker : Stmt := top 29
def pick (n : Nat) (k : List Key) : V := (k.map kV).getD n .non
def spPicker : Sp := fun vs H Q _ => ∃ (a : Addr) (ms : List Str) (n : Nat), vs = [.ref a, .int n] ∧ H a = some (.lst (ms.map V.str)) ∧ MarksOk ms ∧ n ≤ 2 ∧
  ∀ (L : Addr) (H' : Hp), H L = none → H' L = some (.dT (wayOf ms (pick n))) → Same H H' → Q (.ref L) H'
section
variable {P : Program} {w : World} {K : PySem.W.Frag} {mg : Str → Option Value} {base : Heap} {f : Addr} {fd : FuncData}
theorem scPicker : FnScope ["marks", "number", "three"] ["marks", "number"] (defScope sPicker) := ⟨rfl, rfl, rfl, by decide +kernel, rfl, by decide +kernel, by decide +kernel⟩
theorem ok_picker {fC fN fT : Addr} {dC dN dT : FuncData} (F : FnP K "picker" sPicker f fd)
    (GC : FnOk P w K mg base CX0 3 fC dC ["marks"] (spNon fun H vs => ∃ a ms, vs = [.ref a] ∧ H a = some (.lst (ms.map V.str)) ∧ MarksOk ms)) (bC : Binds K dC ["marks"] []) (kC : PySem.W.keepIn K (.ref fC) = true) (gC : mg "check_marks" = some (.ref fC))
    (GN : FnOk P w K mg base CX0 1 fN dN ["value"] (spYes fun _ vs => ∃ n : Int, vs = [.int n] ∧ 0 ≤ n)) (bN : Binds K dN ["value"] []) (kN : PySem.W.keepIn K (.ref fN) = true) (gN : mg "is_count" = some (.ref fN))
    (GT : FnOk P w K mg base CX0 1 fT dT ["marks"] (spThrees K)) (bT : Binds K dT ["marks"] []) (kT : PySem.W.keepIn K (.ref fT) = true) (gT : mg "threes_of" = some (.ref fT)) :
    FnOk P w K mg base CX0 4 f fd ["marks", "number"] spPicker := by
  refine F.ok scPicker (fun vs H Q E h => ?_) (fun cdv A outer s H vs Q E hr h => ?_)
  · obtain ⟨a, ms, n, rfl, _⟩ := h
    rfl
  · obtain ⟨a, ms, n, rfl, ha, hm, hn, k⟩ := h
    have hu := hu_of hr
    refine ⟨_, PSs.nox (pss_cons (ps_expr (pe_call GC hr rfl gC kC bC .nil pass0 (pa_cons (pv 0) pa_nil)))
      (pss_cons (ps_if (PW.pt (pw_or (pt_not (pt_val (pe_call GN (hr.mono (by decide)) rfl gN kN bN .nil pass0 (pa_cons (pv 1) pa_nil)))) (pw_or1 (pt_cmpR op_gt (pv 1) pe_int (nomark _))))) (pss_one ps_never) pss_nil)
      (pss_one (ps_ret (pe_dcT (own := [("three", 2)]) (g := gName 2) (tt := tYes) (tk := tVar 2) (tv := tOp (rIxT K) (tVar 2) (tVar 1)) rfl scPicker.nd (Nat.lt_of_succ_lt hu) (pi_list (pe_call GT (hr.mono (by decide)) rfl gT kT bT .nil pass0 (pa_cons (pv 0) pa_nil))) (blkOk_by (own := [("three", 2)]) (N := ["marks", "number", "three"]) (sc := defScope sPicker) (by decide +kernel))
        (fun _ _ _ _ _ => pg_name (i := 2) scPicker.nd rfl (Or.inl rfl)) (fun _ _ _ _ _ => pts_nil) (fun _ _ _ _ _ => pv 2) (fun _ _ _ _ _ => pe_ix ix_tup (pv 2) (pv 1) (fun _ _ => rfl))))))), ?_⟩
    refine ⟨_, rfl, ⟨a, ms, rfl, ha, hm⟩, fun H1 s1 => ?_⟩
    refine ⟨_, rfl, ⟨n, rfl, by omega⟩, fun H2 s2 => ⟨true, rfl, ?_⟩⟩
    refine iteF ?_
    refine ⟨_, rfl, _, _, rfl, rfl, false, by show V.bl (decide ((2 : Int) < (n : Nat))) = _; rw [decide_eq_false (show ¬ ((2 : Int) < (n : Nat)) by omega)], ?_⟩
    refine iteF ?_
    have s12 : Same H H2 := fun b o e => s2 _ _ (s1 _ _ e)
    refine ⟨_, rfl, a, ms, rfl, SqL.of (s12 _ _ ha), hm.2.1, fun L ts H3 nL hL hT s3 => ⟨L, rfl, ⟨_, SqL.of hL⟩, fun D hD => ?_⟩⟩
    have nd := growN_nodup hm.2.2.1.nodup 3
    have few : (growN ms 3).length ≤ 125 := by
      rw [growN_len]
      exact Nat.pow_le_pow_left hm.2.1 3
    refine dcT_list (K := K) (a := L) (xs := ts.map V.ref) (fun i Hx => Hx D = some (.dT (((growN ms 3).take i).map fun k => (k, pick n k))) ∧ Same H3 Hx) ⟨upd_same, same_new hD⟩ (fun i Hx _ z => SqL.of (z.2 _ _ hL)) ?_ ?_
    · rintro i x Hx hx ⟨q1, q2⟩
      obtain ⟨t, et, rfl⟩ : ∃ t, ts[i]? = some t ∧ V.ref t = x := by
        rw [List.getElem?_map] at hx
        exact Option.map_eq_some_iff.mp hx
      obtain ⟨kk, ek, ht⟩ := paired_at' hT et
      have ht' := q2 _ _ ht
      have k3 : kk.length = 3 := growN_each ms 3 kk (List.mem_of_getElem? ek)
      obtain ⟨v, hv⟩ : ∃ v, (kk.map kV)[n]? = some v := ⟨_, List.getElem?_eq_getElem (by rw [List.length_map, k3]; omega)⟩
      have ev : pick n kk = v := by
        unfold pick
        rw [List.getD_eq_getElem?_getD, hv] <;> rfl
      refine ⟨rfl, ?_⟩
      refine ⟨_, rfl, _, rfl, _, rfl, t, kk.map kV, (n : Int), v, rfl, rfl, SqT.of ht', atI_nat hv, ?_⟩
      refine ⟨_, kk, t, rfl, ht', q1, ?_, ?_, fun b o e => (upd_ne (ne_of_none e hD)).trans (q2 _ _ e)⟩
      · rw [List.length_map, List.length_take]
        exact len_ok (by omega)
      · have et1 : (growN ms 3).take (i + 1) = (growN ms 3).take i ++ [kk] := by rw [List.take_add_one, ek] <;> rfl
        have fresh : kk ∉ (((growN ms 3).take i).map fun k => (k, pick n k)).map (·.1) := by
          rw [List.map_map]
          intro z
          obtain ⟨k', hk', e'⟩ := List.mem_map.mp z
          have e2 : k' = kk := e'
          rw [e2] at hk'
          rw [← List.take_append_drop (i + 1) (growN ms 3), et1] at nd
          have := (List.nodup_append.mp (List.nodup_append.mp nd).1).2.2 kk hk' kk (List.mem_singleton.mpr rfl)
          exact this rfl
        rw [upd_same, putK_new fresh, et1, List.map_append, ← ev]
        rfl
    · rintro Hx ⟨q1, q2⟩
      rw [List.length_map, Paired.length hT, List.take_length] at q1
      have nD : H D = none := by
        cases e : H D with
        | none => rfl
        | some o =>
          rw [s3 _ _ (s12 _ _ e)] at hD
          cases hD
      exact k D Hx nD q1 fun b o e => q2 _ _ (s3 _ _ (s12 _ _ e))
end
end Yt

set_option Elab.async false
set_option linter.all false
set_option maxRecDepth 100000
set_option maxHeartbeats 2000000
namespace Yt
open PySem PySem.Spec PyProof.Rows L2
/-- a way in the heap: its items, what it gives -/
def Way8 (G : Hp) (ms : List Str) (v : V) (m : List (List Key × V)) (g : Str → Str → Str → Str) : Prop := ∃ dw, v = .ref dw ∧ WayIn G dw ms m ∧ ∀ x ∈ ms, ∀ y ∈ ms, ∀ z ∈ ms, valV m [Sum.inr x, Sum.inr y, Sum.inr z] = some (.str (g x y z))
def Maj8 (G : Hp) (ms : List Str) (v : V) (m : List (List Key × V)) (g : Str → Str → Str → Str) : Prop := Way8 G ms v m g ∧ WayG ms g ∧ majB ms m = true
theorem Way8.to {G G' : Hp} {ms : List Str} {v : V} {m : List (List Key × V)} {g : Str → Str → Str → Str} (h : Way8 G ms v m g) (s : Same G G') : Way8 G' ms v m g := by
  obtain ⟨dw, e, h1, h2⟩ := h
  exact ⟨dw, e, h1.to s, h2⟩
theorem Maj8.to {G G' : Hp} {ms : List Str} {v : V} {m : List (List Key × V)} {g : Str → Str → Str → Str} (h : Maj8 G ms v m g) (s : Same G G') : Maj8 G' ms v m g := ⟨h.1.to s, h.2⟩
theorem way8_of {ms : List Str} (hn : ms.Nodup) {H : Hp} {L : Addr} {m : List (List Key × V)} (hL : H L = some (.dT m)) (hk : m.map (·.1) = growN ms 3) (hv : ∀ e ∈ m, ∃ z ∈ ms, e.2 = V.str z) : ∃ g, Way8 H ms (.ref L) m g := by
  refine ⟨fun x y z => match valV m [Sum.inr x, Sum.inr y, Sum.inr z] with
      | some (.str s) => s
      | _ => x, L, rfl, ⟨hL, by rw [hk], hv⟩, fun x hx y hy z hz => ?_⟩
  have hm := grow_mem3 hx hy hz
  rw [← hk] at hm
  obtain ⟨⟨k2, v⟩, hmem, e⟩ := List.mem_map.mp hm
  obtain rfl : k2 = [Sum.inr x, Sum.inr y, Sum.inr z] := e
  obtain ⟨s, hs, ev⟩ := hv _ hmem
  have ev : v = V.str s := ev
  subst ev
  obtain ⟨j, ej⟩ := List.mem_iff_getElem?.mp hmem
  have := valV_at (by rw [hk]; exact growN_nodup hn 3) ej
  simp only [this]
theorem majB_of {ms : List Str} (hn : ms.Nodup) {m : List (List Key × V)} (hk : m.map (·.1) = growN ms 3) (hv : ∀ e ∈ m, MajV ms e.1 e.2) : majB ms m = true := by
  unfold majB
  rw [List.all_eq_true]
  intro k hkm
  rw [← hk] at hkm
  obtain ⟨⟨k2, v⟩, hmem, e⟩ := List.mem_map.mp hkm
  obtain rfl : k2 = k := e
  obtain ⟨j, ej⟩ := List.mem_iff_getElem?.mp hmem
  have hval := valV_at (by rw [hk]; exact growN_nodup hn 3) ej
  obtain ⟨h1, s, hs, ev⟩ := hv _ hmem
  have ev : v = V.str s := ev
  have h1 : twK k2 ≠ .non → v = twK k2 := h1
  rw [hk] at hkm
  obtain ⟨x, y, z, _, _, _, rfl⟩ := grow3_form hkm
  unfold majAt
  rw [hval]
  show inV (twiceV x y z) [.non, v] = true
  have h1 : twiceV x y z ≠ .non → v = twiceV x y z := h1
  by_cases c : twiceV x y z = .non
  · rw [c]
    simp [inV, eqV]
  · rw [← h1 c]
    obtain rfl : v = V.str s := ev
    simp [inV, eqV]
theorem maj8_of {ms : List Str} (hn : ms.Nodup) {H : Hp} {L : Addr} {m : List (List Key × V)} (hL : H L = some (.dT m)) (hk : m.map (·.1) = growN ms 3) (hv : ∀ e ∈ m, MajV ms e.1 e.2) : ∃ g, Maj8 H ms (.ref L) m g := by
  obtain ⟨g, hg, m', hL', hval⟩ := way_of hn hL hk hv
  rw [hL] at hL'
  cases hL'
  exact ⟨g, ⟨L, rfl, ⟨hL, by rw [hk], fun e he => (hv e he).2⟩, hval⟩, hg, majB_of hn hk hv⟩
theorem mid8_of {ms os : List Str} (hm : MarksOk ms) (hp : os.Perm ms) {H : Hp} {L : Addr} (hL : H L = some (.dT (wayOf ms (midOf os)))) : ∃ g, Maj8 H ms (.ref L) (wayOf ms (midOf os)) g := by
  refine maj8_of hm.2.2.1.nodup hL (way_keys _ _) fun e he => ?_
  obtain ⟨k, hk, rfl⟩ := List.mem_map.mp he
  refine ⟨fun hn => ?_, mid_in hp k hk⟩
  obtain ⟨x, y, z, hx, hy, hz, rfl⟩ := grow3_form hk
  show midOf os [Sum.inr x, Sum.inr y, Sum.inr z] = twK [Sum.inr x, Sum.inr y, Sum.inr z]
  have et : twK [Sum.inr x, Sum.inr y, Sum.inr z] = twiceV x y z := rfl
  rw [et]
  have hn : twiceV x y z ≠ .non := hn
  obtain ⟨c, ec⟩ : ∃ c, twiceV x y z = .str c := by
    unfold twiceV at hn ⊢
    split
    · exact ⟨_, rfl⟩
    · split
      · exact ⟨_, rfl⟩
      · rename_i h1 h2
        rw [if_neg h1, if_neg h2] at hn
        exact absurd rfl hn
  rw [ec]
  exact mid_maj (hp.mem_iff.mpr hx) (hp.mem_iff.mpr hy) (hp.mem_iff.mpr hz) ec
def gP (n : Nat) (x y z : Str) : Str := [x, y, z].getD n x
theorem pick8 {ms : List Str} (hm : MarksOk ms) {H : Hp} {L : Addr} {n : Nat} (hn : n ≤ 2) (hL : H L = some (.dT (wayOf ms (pick n)))) : Way8 H ms (.ref L) (wayOf ms (pick n)) (gP n) := by
  have pk : ∀ x y z : Str, pick n [Sum.inr x, Sum.inr y, Sum.inr z] = V.str (gP n x y z) := fun x y z => by
    match n, hn with
    | 0, _ => rfl
    | 1, _ => rfl
    | 2, _ => rfl
  refine ⟨L, rfl, ⟨hL, by rw [way_keys], fun e he => ?_⟩, fun x hx y hy z hz => ?_⟩
  · obtain ⟨k, hk, rfl⟩ := List.mem_map.mp he
    obtain ⟨x, y, z, hx, hy, hz, rfl⟩ := grow3_form hk
    refine ⟨gP n x y z, ?_, pk x y z⟩
    match n, hn with
    | 0, _ => exact hx
    | 1, _ => exact hy
    | 2, _ => exact hz
  · rw [way_val hm _ (grow_mem3 hx hy hz), pk]
theorem gP_keeps {n k : Nat} {rs : List (List Str)} (hn : n ≤ 2) (len : ∀ r ∈ rs, r.length = k) : ClosedG (gP n) rs := by
  refine pick_keeps len ?_
  match n, hn with
  | 0, _ => exact .inl fun _ _ _ => rfl
  | 1, _ => exact .inr (.inl fun _ _ _ => rfl)
  | 2, _ => exact .inr (.inr fun _ _ _ => rfl)
/-- rows of one place: a majority keeps them exactly if it keeps what stands there twice -/
theorem one_place {ms : List Str} {g : Str → Str → Str → Str} {rs : List (List Str)} (W : WayG ms g) (hm : Asc ms) (R : RowsOk ms (0 + 1) rs) (u : Up rs) : (twosN (0 + 1)).all (clB g rs) = true ↔ ClosedG g rs := by
  rw [kept_iff W hm R u, List.all_eq_true]
  have len : ∀ r ∈ rs, r.length = 0 + 1 := fun r hr => (R r hr).1
  have td := (told_due hm u len (fun r hr => (R r hr).2)).mp (told_two len (by decide))
  exact ⟨fun h => ⟨fun p hp => clB_iff.mp (h p hp), td⟩, fun h p hp => clB_iff.mpr (h.1 p hp)⟩
end Yt

set_option Elab.async false
set_option linter.all false
set_option maxRecDepth 100000
set_option maxHeartbeats 2000000
namespace Yt
open PySem PySem.Spec PyProof.Rows L2
abbrev sShuf : Stmt := top 43
/-- a list put in another order -/
def spShuf (K : PySem.W.Frag) : Sp := fun vs H Q _ => ∃ (p a : Addr) (f : Nat) (xs : List V), vs = [.ref p, .ref a] ∧ a ≠ p ∧ PurseAt H p (f + xs.length) ∧ SqL K H a xs ∧ xs.length ≤ 1000 ∧
  ∀ (L : Addr) (ys : List V) (H' : Hp), ys.Perm xs → H L = none → H' L = some (.lst ys) → PurseAt H' p f → But p H H' → Q (.ref L) H'
section
variable {P : Program} {w : World} {K : PySem.W.Frag} {mg : Str → Option Value} {base : Heap} {f : Addr} {fd : FuncData}
theorem scShuf : FnScope ["_law_purse_here", "_law_some", "_law_found", "_law_item"] ["_law_purse_here", "_law_some"] (defScope sShuf) := ⟨rfl, rfl, rfl, by decide +kernel, rfl, by decide +kernel, by decide +kernel⟩
theorem ok_shuf {fD : Addr} {fdD : FuncData} (F : FnP K "_law_shuffled" sShuf f fd) (T : Nm mg) (GD : FnOk P w K mg base CX0 2 fD fdD ["_law_purse_here", "_law_many"] spDraw) (bD : Binds K fdD ["_law_purse_here", "_law_many"] []) (kD : PySem.W.keepIn K (.ref fD) = true) (gD : mg "_law_draw" = some (.ref fD)) :
    FnOk P w K mg base CX0 3 f fd ["_law_purse_here", "_law_some"] (spShuf K) := by
  refine F.ok scShuf (fun vs H Q E h => ?_) (fun cdv A outer s H vs Q E hr h => ?_)
  · obtain ⟨p, a, g, xs, rfl, _⟩ := h
    rfl
  · obtain ⟨p, a, g, xs, rfl, ne, hP, hS, hl, k⟩ := h
    refine ⟨_, PSs.nox (pss_cons (ps_set (i := 2) scShuf.nd rfl (Or.inl rfl) (pe_lst pa_nil))
      (pss_cons (ps_for PassesOwn.never rfl (pi_list (pv 1)) (pg_name (i := 3) scShuf.nd rfl (Or.inl rfl))
        (pss_one (ps_expr (pe_bm PySem.F.plainAttrs_list PySem.F.slot_list_insert PySem.F.type_list_insert mt_insert (pv 2) (pa_cons (pe_call GD hr rfl gD kD bD .nil pass0 (pa_cons (pv 0) (pa_cons (pe_op op_add (pe_callB call_len (by rfl) T.len PySem.boot_len (pa_cons (pv 2) pa_nil)) pe_int) pa_nil))) (pa_cons (pv 3) pa_nil))))))
      (pss_one (ps_ret (pv 2))))), ?_⟩
    refine ⟨(by show 0 ≤ sizeLine; decide), fun L nL => ?_⟩
    have nLp : L ≠ p := fun z => by
      obtain ⟨x, y, c, t, e, _⟩ := hP
      rw [z, e] at nL
      cases nL
    have s1 := same_new (o := .lst []) nL
    refine ⟨_, rfl, a, rfl, ⟨_, s1.seq hS⟩, for_list (K := K) (a := a) (xs := xs) (fun i σ H2 => ∃ (v : Option V) (ys : List V), σ = [some (.ref p), some (.ref a), some (.ref L), v] ∧ ys.Perm (xs.take i) ∧ H2 L = some (.lst ys) ∧ PurseAt H2 p (g + (xs.length - i)) ∧ But p H H2)
      ⟨none, [], rfl, .refl _, upd_same, ?_, Same.but s1⟩ (fun i σ H2 _ ⟨_, _, _, _, _, _, h⟩ => h.seq ne hS) ?_ ?_⟩
    · exact hP.to fun o e => s1 _ _ e
    · rintro i u σ H2 hi ⟨v, ys, rfl, hp, hL, hP2, hB⟩
      have hlt : i < xs.length := (List.getElem?_eq_some_iff.mp hi).1
      have hys : ys.length = i := by
        rw [hp.length_eq, List.length_take]
        omega
      have hf : g + (xs.length - i) = (g + (xs.length - (i + 1))) + 1 := by omega
      rw [hf] at hP2
      refine ⟨_, rfl, .inl ⟨rfl, _, SqL.of hL⟩, _, rfl, _, rfl, _, ys.length, rfl, Or.inl ⟨_, SqL.of hL, rfl⟩, _, _, rfl, rfl, p, g + (xs.length - (i + 1)), _, rfl, hP2, ⟨by omega, by omega⟩, fun r H3 r0 r1 hP3 hB3 => ?_⟩
      have hL3 := hB3 _ _ nLp hL
      refine ⟨_, rfl, L, ys, r, u, rfl, rfl, hL3, ?_, r0, by omega, ?_⟩
      · rw [hys]
        show i < sizeLine
        rw [sizeLine_eq]
        omega
      · refine ⟨some u, _, rfl, ?_, upd_same, ?_, ?_⟩
        · have e1 : xs.take (i + 1) = xs.take i ++ [u] := by rw [List.take_add_one, hi] <;> rfl
          rw [e1, List.append_assoc]
          refine List.Perm.trans ?_ (List.Perm.append_right [u] hp)
          have h1 : (ys.take r.toNat ++ ([u] ++ ys.drop r.toNat)).Perm (u :: (ys.take r.toNat ++ ys.drop r.toNat)) := List.perm_middle
          rw [List.take_append_drop] at h1
          exact h1.trans (List.perm_append_singleton u ys).symm
        · exact hP3.to fun o e => (upd_ne nLp.symm).trans e
        · exact fun b o n e => (upd_ne (ne_of_none e nL)).trans (hB3 _ _ n (hB _ _ n e))
    · rintro σ H2 ⟨v, ys, rfl, hp, hL, hP2, hB⟩
      refine ⟨_, rfl, k L ys H2 ?_ nL hL ?_ hB⟩
      · rw [List.take_length] at hp
        exact hp
      · rw [Nat.sub_self] at hP2
        exact hP2
end
end Yt

set_option Elab.async false
set_option linter.all false
set_option maxRecDepth 100000
set_option maxHeartbeats 4000000
namespace Yt
open PySem PySem.Spec PyProof.Rows L2
abbrev sLaw : Stmt := top 65
abbrev stP : Stmt := (defBody sLaw).getD 0 noSt
abbrev lSt (i : Nat) : Stmt := (forBody stP).getD i noSt
abbrev wSt (i : Nat) : Stmt := (forBody (lSt 7)).getD i noSt
abbrev eSt (i : Nat) : Stmt := (forBody (wSt 4)).getD i noSt
abbrev lawN : List Str := ["_law_script", "_law_purse_here", "_law_marks_here", "_law_drawn", "_law_ways", "_law_four", "_law_odd", "_law_some", "_law_late", "_law_width", "_law_rows", "_law_table", "_law_way", "_law_twos", "_law_due", "_law_three", "_law_number", "_law_two"]
theorem scLaw : FnScope lawN ["_law_script"] (defScope sLaw) := ⟨rfl, rfl, rfl, by decide +kernel, rfl, by decide +kernel, by decide +kernel⟩
abbrev LX (P : Program) (w : World) (K : PySem.W.Frag) (mg : Str → Option Value) (base : Heap) (f : Addr) (cdv : Value) (A : Around) (outer : List Env) (s : Shared) (H : Hp) (E : XK) : Cx := (cxOf CX0 P w K mg base lawN "law" (defScope sLaw) f cdv A outer s H E).nox
abbrev RoomL (A : Around) (s : Shared) (f : Addr) (cdv : Value) : Prop := Room 9 (A.deeper (envOfC "law" (defScope sLaw) s.heap.objs.size f cdv))
/-- what the law calls -/
structure CalL (P : Program) (w : World) (K : PySem.W.Frag) (mg : Str → Option Value) (base : Heap) (C : Addr) : Prop where
  tm : TM P w K mg base C
  purses : Cal P w K mg base "_law_purses" 2 ["_law_script", "_law_few"] (spPurses K)
  draw : Cal P w K mg base "_law_draw" 2 ["_law_purse_here", "_law_many"] spDraw
  one : Cal P w K mg base "_law_one_of" 3 ["_law_purse_here", "_law_some"] (spOne K)
  marks : Cal P w K mg base "_law_marks" 5 ["_law_purse_here", "_law_many"] spMarks
  threes : Cal P w K mg base "_law_threes" 1 ["_law_marks_here"] (spThrees K)
  maj : Cal P w K mg base "_law_majority" 4 ["_law_purse_here", "_law_marks_here"] spLawMaj
  mid : Cal P w K mg base "_law_middle" 2 ["_law_order"] spLawMid
  shuf : Cal P w K mg base "_law_shuffled" 3 ["_law_purse_here", "_law_some"] (spShuf K)
  drawn : Cal P w K mg base "_law_drawn_rows" 5 ["_law_purse_here", "_law_marks_here", "_law_width", "_law_most"] spLDrawn
  ex : Cal P w K mg base "_law_exact" 5 ["_law_mine", "_law_theirs"] (spExact K 5)
  broken : Cal P w K mg base "_law_broken" 2 ["_law_way", "_law_rows"] spLBroken
  keeps : Cal P w K mg base "keeps" 5 ["table", "way"] (spKeeps C)
  keepsP : Cal P w K mg base "keeps_by_pairs" 7 ["table", "way"] (spKeepsP C)
  picker : Cal P w K mg base "picker" 4 ["marks", "number"] spPicker
  twos : Cal P w K mg base "_law_twos_of" 1 ["_law_width"] spTwos
  pairs : Cal P w K mg base "_law_pair_rows" 1 ["_law_rows", "_law_one", "_law_other"] spLPairRows
  byP : Cal P w K mg base "_law_by_pairs" 2 ["_law_marks_here", "_law_width", "_law_rows"] spLByPairs
  kept : Cal P w K mg base "_law_kept_right" 9 ["_law_purse_here", "_law_marks_here", "_law_table", "_law_rows", "_law_way"] (spLKept C)
/-- the marks and the ways over them -/
structure LS (G : Hp) (A W : Addr) (ms : List Str) (v1 v2 v3 : V) : Prop where
  a : G A = some (.lst (ms.map V.str))
  ok : MarksOk ms
  few : ms.length ≤ 3
  ws : G W = some (.lst [v1, v2, v3])
  w1 : ∃ m g, Maj8 G ms v1 m g
  w2 : ∃ m g, Maj8 G ms v2 m g
  w3 : ∃ m g, Way8 G ms v3 m g
theorem LS.to {G G' : Hp} {A W : Addr} {ms : List Str} {v1 v2 v3 : V} (h : LS G A W ms v1 v2 v3) (s : Same G G') : LS G' A W ms v1 v2 v3 :=
  ⟨s _ _ h.a, h.ok, h.few, s _ _ h.ws, let ⟨m, g, x⟩ := h.w1; ⟨m, g, x.to s⟩, let ⟨m, g, x⟩ := h.w2; ⟨m, g, x.to s⟩, let ⟨m, g, x⟩ := h.w3; ⟨m, g, x.to s⟩⟩
/-- a table over them and its rows -/
structure TS8 (C : Addr) (G : Hp) (pt L : Addr) (ms : List Str) (d : Nat) (M : List (Addr × List Str)) : Prop where
  d3 : d ≤ 2
  t : TableAt C G pt ms d (M.map (·.2))
  l : RowsAt G L M
  rok : RowsOk ms (d + 1) (M.map (·.2))
  lM : M.length ≤ 3
theorem TS8.to {C : Addr} {G G' : Hp} {pt L : Addr} {ms : List Str} {d : Nat} {M : List (Addr × List Str)} (h : TS8 C G pt L ms d M) (s : Same G G') : TS8 C G' pt L ms d M := ⟨h.d3, h.t.to s, h.l.to s, h.rok, h.lM⟩
theorem TS8.ks {C : Addr} {G : Hp} {pt L A W dw : Addr} {ms : List Str} {d : Nat} {M : List (Addr × List Str)} {v1 v2 v3 : V} {m : List (List Key × V)} {g : Str → Str → Str → Str} (h : TS8 C G pt L ms d M) (l : LS G A W ms v1 v2 v3) (w : WayIn G dw ms m) (v : ∀ x ∈ ms, ∀ y ∈ ms, ∀ z ∈ ms, valV m [Sum.inr x, Sum.inr y, Sum.inr z] = some (.str (g x y z))) : KS C G A pt L dw ms d M g m :=
  ⟨l.a, l.ok, l.few, h.d3, h.t, h.l, h.rok, h.lM, w, v⟩
section
variable {P : Program} {w : World} {K : PySem.W.Frag} {mg : Str → Option Value} {base : Heap} {f : Addr} {fd : FuncData} {C : Addr} {cdv : Value} {A0 : Around} {outer : List Env} {s0 : Shared} {H0 : Hp} {E : XK}
variable {p A W pt L : Addr} {ms : List Str} {d : Nat} {M : List (Addr × List Str)} {v1 v2 v3 : V} {fu : Nat}
/-- the ways that are looked at, one behind the other -/
def tWays (p W : Addr) (v1 v2 v3 : V) (d : Nat) : TE := fun σ H Q => ∃ (fu : Nat) (u0 u1 u2 u3 u5 u6 u7 u8 u10 u11 u12 u13 u14 u15 u16 u17 : Option V), σ = [u0, u1, u2, u3, some (.ref W), u5, u6, u7, u8, some (.int ((d + 1 : Nat) : Int)), u10, u11, u12, u13, u14, u15, u16, u17] ∧ PurseAt H p fu ∧ H W = some (.lst [v1, v2, v3]) ∧
  ∀ (LL : Addr) (H' : Hp) (xs : List V), Same H H' → LL ≠ p → H' LL = some (.lst xs) → xs.length ≤ 4 → (∀ x ∈ xs, x = v1 ∨ x = v2 ∨ x = v3) → Q (.ref LL) H'
theorem st_w2 (Cs : CalL P w K mg base C) (T : Nm mg) (T6 : Nm6 mg) (hr : RoomL A0 s0 f cdv) : PS (LX P w K mg base f cdv A0 outer s0 H0 E) (wSt 2)
    (fun D σ H => ∃ (u0 u3 u5 u6 u7 u8 u12 u13 u14 u15 u16 u17 : Option V), σ = [u0, some (.ref p), some (.ref A), u3, some (.ref W), u5, u6, u7, u8, some (.int ((d + 1 : Nat) : Int)), some (.ref L), some (.ref pt), u12, u13, u14, u15, u16, u17] ∧ PurseAt H p (fu + 48) ∧ LS (hid p H) A W ms v1 v2 v3 ∧ TS8 C (hid p H) pt L ms d M ∧
      ∀ (v12 : Option V) (H' : Hp), PurseAt H' p fu → But p H H' → D.nx [u0, some (.ref p), some (.ref A), u3, some (.ref W), u5, u6, u7, u8, some (.int ((d + 1 : Nat) : Int)), some (.ref L), some (.ref pt), v12, u13, u14, u15, u16, u17] H') := by
  obtain ⟨fK, dK, GK, bK, kK, gK⟩ := Cs.kept.ex
  refine pstW (ps_for PassesOwn.never rfl (pi_list (pexW (t' := tWays p W v1 v2 v3 d) (pe_op op_cat (pe_op op_cat (pe_slice sl_list (pv 4) po_none (po_some pe_int)) (pe_ifExp (pt_cmpR op_lt (pv 9) pe_int (nomark _)) (pe_slice sl_list (pv 4) (po_some pe_int) po_none) (pe_lst pa_nil))) (pe_slice sl_list (pv 4) po_none (po_some pe_int))) (fun σ H Q hq => ?_))) (pg_name (i := 12) scLaw.nd rfl (Or.inr rfl))
    (pss_one (ps_if (pt_not (pt_val (pe_call GK hr rfl gK kK bK .nil pass0 (pa_cons (pv 1) (pa_cons (pv 2) (pa_cons (pv 11) (pa_cons (pv 10) (pa_cons (pv 12) pa_nil)))))))) (pss_one (ps_ret pe_bl)) pss_nil))) fun D σ H h => ?_
  · obtain ⟨fv, u0, u1, u2, u3, u5, u6, u7, u8, u10, u11, u12, u13, u14, u15, u16, u17, rfl, hP, hW, k⟩ := hq
    have l0 : 0 ≤ sizeLine := by decide
    have fresh : ∀ {Hc : Hp} {D : Addr}, Same H Hc → Hc D = none → D ≠ p := fun {Hc D} s n => (hP.to fun o z => s _ _ z).ne n
    refine ⟨_, rfl, _, rfl, W, _, rfl, SqL.of hW, fun q1 n1 => ?_⟩
    generalize etl : cutV [v1, v2, v3] none (some 2) = tl
    obtain rfl : tl = [v1, v2] := by rw [← etl] <;> rfl
    clear etl
    have s1 := same_new (o := .lst [v1, v2]) n1
    have h1 := upd_same (H := H) (a := q1) (o := .lst [v1, v2])
    generalize upd H q1 (.lst [v1, v2]) = H1 at s1 h1 ⊢
    refine ⟨_, rfl, _, _, rfl, rfl, decide (((d + 1 : Nat) : Int) < 3), rfl, ?_⟩
    have rest : ∀ (q2 : Addr) (H2 : Hp) (xs : List V), Same H1 H2 → H2 q2 = some (.lst xs) → xs.length ≤ 1 → (∀ x ∈ xs, x = v1 ∨ x = v2 ∨ x = v3) → ∃ (a b : Addr) (ys zs : List V), V.ref q1 = .ref a ∧ V.ref q2 = .ref b ∧ H2 a = some (.lst ys) ∧ H2 b = some (.lst zs) ∧ ys.length + zs.length ≤ sizeLine ∧ ∀ q3, H2 q3 = none → ∃ j, V.int 1 = V.int j ∧ ∃ (a : Addr) (us : List V), V.ref W = .ref a ∧ SqL K (upd H2 q3 (.lst (ys ++ zs))) a us ∧ ∀ q4, (upd H2 q3 (.lst (ys ++ zs))) q4 = none →
        ∃ (a b : Addr) (ys' zs' : List V), V.ref q3 = .ref a ∧ V.ref q4 = .ref b ∧ (upd (upd H2 q3 (.lst (ys ++ zs))) q4 (.lst (cutV us none (some j)))) a = some (.lst ys') ∧ (upd (upd H2 q3 (.lst (ys ++ zs))) q4 (.lst (cutV us none (some j)))) b = some (.lst zs') ∧ ys'.length + zs'.length ≤ sizeLine ∧ ∀ q5, (upd (upd H2 q3 (.lst (ys ++ zs))) q4 (.lst (cutV us none (some j)))) q5 = none → Q (.ref q5) (upd (upd (upd H2 q3 (.lst (ys ++ zs))) q4 (.lst (cutV us none (some j)))) q5 (.lst (ys' ++ zs'))) := by
      intro q2 H2 xs s2 h2 lx ok
      have s02 : Same H H2 := fun b o e => s2 _ _ (s1 _ _ e)
      refine ⟨q1, q2, [v1, v2], xs, rfl, rfl, s2 _ _ h1, h2, by rw [sizeLine_eq]; simp only [List.length_cons, List.length_nil]; omega, fun q3 n3 => ⟨_, rfl, W, [v1, v2, v3], rfl, ?_⟩⟩
      have s3 : Same H2 _ := same_new (o := .lst ([v1, v2] ++ xs)) n3
      have h3 := upd_same (H := H2) (a := q3) (o := .lst ([v1, v2] ++ xs))
      have s03 : Same H (upd H2 q3 (.lst ([v1, v2] ++ xs))) := fun b o e => s3 _ _ (s02 _ _ e)
      generalize upd H2 q3 (.lst ([v1, v2] ++ xs)) = H3 at s3 h3 s03 ⊢
      refine ⟨SqL.of (s03 _ _ hW), fun q4 n4 => ?_⟩
      generalize etl : cutV [v1, v2, v3] none (some 1) = tl
      obtain rfl : tl = [v1] := by rw [← etl] <;> rfl
      clear etl
      have s4 : Same H3 _ := same_new (o := .lst [v1]) n4
      have h4 := upd_same (H := H3) (a := q4) (o := .lst [v1])
      have s04 : Same H (upd H3 q4 (.lst [v1])) := fun b o e => s4 _ _ (s03 _ _ e)
      generalize upd H3 q4 (.lst [v1]) = H4 at s4 h4 s04 ⊢
      refine ⟨q3, q4, [v1, v2] ++ xs, [v1], rfl, rfl, s4 _ _ h3, h4, by rw [sizeLine_eq, List.length_append]; simp only [List.length_cons, List.length_nil]; omega, fun q5 n5 => ?_⟩
      refine k q5 _ _ (fun b o e => same_new n5 _ _ (s04 _ _ e)) (fresh s04 n5) upd_same (by rw [List.length_append, List.length_append]; simp only [List.length_cons, List.length_nil]; omega) fun x hx => ?_
      rcases List.mem_append.mp hx with hx | hx
      · rcases List.mem_append.mp hx with hx | hx
        · simp only [List.mem_cons, List.not_mem_nil, or_false] at hx
          rcases hx with rfl | rfl
          · exact .inl rfl
          · exact .inr (.inl rfl)
        · exact ok x hx
      · rw [List.mem_singleton.mp hx]
        exact .inl rfl
    by_cases c : ((d + 1 : Nat) : Int) < 3
    · rw [decide_eq_true c]
      refine iteT ?_
      refine ⟨_, rfl, _, rfl, W, _, rfl, SqL.of (s1 _ _ hW), fun q2 n2 => ?_⟩
      generalize etl : cutV [v1, v2, v3] (some 2) none = tl
      obtain rfl : tl = [v3] := by rw [← etl] <;> rfl
      clear etl
      obtain ⟨a, b, ys, zs, r1, r2, r3, r4, r5, r6⟩ := rest q2 _ [v3] (same_new n2) upd_same (Nat.le_refl _) fun x hx => .inr (.inr (List.mem_singleton.mp hx))
      refine ⟨a, b, ys, zs, r1, r2, r3, r4, r5, fun q3 n3 => ⟨_, rfl, ?_⟩⟩
      exact r6 q3 n3
    · rw [decide_eq_false c]
      refine iteF ?_
      refine ⟨l0, fun q2 n2 => ?_⟩
      obtain ⟨a, b, ys, zs, r1, r2, r3, r4, r5, r6⟩ := rest q2 _ [] (same_new n2) upd_same (Nat.zero_le _) fun x hx => nomatch hx
      refine ⟨a, b, ys, zs, r1, r2, r3, r4, r5, fun q3 n3 => ⟨_, rfl, ?_⟩⟩
      exact r6 q3 n3
  · obtain ⟨u0, u3, u5, u6, u7, u8, u12, u13, u14, u15, u16, u17, rfl, hP, hL, hT, k⟩ := h
    have way1 : ∃ m g, Way8 (hid p H) ms v1 m g := let ⟨m, g, x⟩ := hL.w1; ⟨m, g, x.1⟩
    have way2 : ∃ m g, Way8 (hid p H) ms v2 m g := let ⟨m, g, x⟩ := hL.w2; ⟨m, g, x.1⟩
    refine ⟨_, _, _, _, _, _, _, _, _, _, _, _, _, _, _, _, _, rfl, hP, hid_same p H _ _ hL.ws, fun LL Hs xs ss nLL hLL lx ok => ?_⟩
    refine ⟨LL, rfl, ⟨_, SqL.of hLL⟩, for_list (K := K) (a := LL) (xs := xs) (fun i σ Hx => ∃ v12 : Option V, σ = [u0, some (.ref p), some (.ref A), u3, some (.ref W), u5, u6, u7, u8, some (.int ((d + 1 : Nat) : Int)), some (.ref L), some (.ref pt), v12, u13, u14, u15, u16, u17] ∧ PurseAt Hx p (fu + 48 - 12 * i) ∧ But p Hs Hx)
      ⟨_, rfl, hP.to fun o z => ss _ _ z, But.refl p Hs⟩ (fun i σ Hx _ ⟨_, _, _, z⟩ => SqL.of (z _ _ nLL hLL)) ?_ ?_⟩
    · rintro i v σ Hx ev ⟨v12, rfl, hPx, bx⟩
      have i4 : i < xs.length := (List.getElem?_eq_some_iff.mp ev).1
      have hS : Same (hid p H) (hid p Hx) := fun b o e => (But.hid bx) _ _ ((Same.hid ss) _ _ e)
      obtain ⟨m, g, dw, rfl, w1, w2⟩ : ∃ m g, Way8 (hid p Hx) ms v m g := by
        rcases ok v (List.mem_of_getElem? ev) with rfl | rfl | rfl
        · exact let ⟨m, g, x⟩ := way1; ⟨m, g, x.to hS⟩
        · exact let ⟨m, g, x⟩ := way2; ⟨m, g, x.to hS⟩
        · exact let ⟨m, g, x⟩ := hL.w3; ⟨m, g, x.to hS⟩
      obtain ⟨fv, ef⟩ : ∃ fv, fu + 48 - 12 * i = fv + 12 := ⟨fu + 48 - 12 * i - 12, by omega⟩
      rw [ef] at hPx
      refine ⟨_, rfl, _, rfl, _, rfl, _, rfl, _, rfl, p, A, pt, L, dw, ms, d, M, g, m, fv, rfl, hPx, (hT.to hS).ks (hL.to hS) w1 w2, fun H' hP' b' => ⟨true, rfl, ?_⟩⟩
      refine iteF ?_
      exact ⟨_, rfl, hP'.less (by omega), bx.trans b'⟩
    · rintro σ Hx ⟨v12, rfl, hPx, bx⟩
      exact k v12 Hx (hPx.less (by omega)) ((Same.but ss).trans bx)
end
end Yt

set_option Elab.async false
set_option linter.all false
set_option maxRecDepth 100000
set_option maxHeartbeats 4000000
namespace Yt
open PySem PySem.Spec PyProof.Rows L2
theorem broken_end {g : Str → Str → Str → Str} {M : List (Addr × List Str)} {H : Hp} {Q : VK} (k : ∀ u H', (u = .non ↔ ClosedG g (M.map (·.2))) → Same H H' → Q u H') : BrokenEnd g M H Q :=
  ⟨fun cl H' s => k .non H' ⟨fun _ => cl, fun _ => rfl⟩ s, fun x hx y hy z hz nc T H' _ _ s => k (.ref T) H' ⟨(fun z => nomatch z), fun cl => absurd (cl _ (List.mem_map.mpr ⟨x, hx, rfl⟩) _ (List.mem_map.mpr ⟨y, hy, rfl⟩) _ (List.mem_map.mpr ⟨z, hz, rfl⟩)) nc⟩ s⟩
/-- the rows of two places, in a list at e.1 -/
def PairsIs (G : Hp) (rs : List (List Str)) (e : Addr × List (Addr × List Str)) (q : Nat × Nat) : Prop := RowsAt G e.1 e.2 ∧ ∀ x, x ∈ e.2.map (·.2) ↔ x ∈ rs.map (two q.1 q.2)
theorem PairsIs.to {G G' : Hp} {rs : List (List Str)} {e : Addr × List (Addr × List Str)} {q : Nat × Nat} (h : PairsIs G rs e q) (s : Same G G') : PairsIs G' rs e q := ⟨h.1.to s, h.2⟩
theorem two_ok {ms : List Str} {d : Nat} {rs : List (List Str)} {q : Nat × Nat} (R : RowsOk ms (d + 1) rs) (hq : q ∈ twosN (d + 1)) : RowsOk ms 2 (rs.map (two q.1 q.2)) := fun r hr => by
  obtain ⟨u, hu, rfl⟩ := List.mem_map.mp hr
  obtain ⟨h1, h2⟩ := twosN_mem.mp hq
  obtain ⟨l, o⟩ := R u hu
  refine ⟨rfl, fun z hz => ?_⟩
  simp only [two, List.mem_cons, List.not_mem_nil, or_false] at hz
  rcases hz with rfl | rfl
  · exact o _ (at_mem (by omega))
  · exact o _ (at_mem (by omega))
theorem hid_upd {D : Addr} {H : Hp} {o : HO} : Same (hid D H) (hid D (upd H D o)) := fun c u e => by
  have n1 : c ≠ D := fun z => by
    rw [z, hid_off] at e
    cases e
  exact hid_at n1 ((upd_ne n1).trans (hid_same D H c u e))
theorem hid_new1 {D : Addr} {H H' : Hp} (s : Same H H') (n : H D = none) : Same H (hid D H') := fun c o e => hid_at (ne_of_none e n) (s _ _ e)
/-- what stands while the pairs of a table are looked at -/
structure ES (C : Addr) (H : Hp) (A pt L dw : Addr) (ms : List Str) (d : Nat) (M : List (Addr × List Str)) (m : List (List Key × V)) (g : Str → Str → Str → Str) : Prop where
  k : KS C H A pt L dw ms d M g m
  w : WayG ms g
  j : majB ms m = true
theorem ES.to {C : Addr} {H H' : Hp} {A pt L dw : Addr} {ms : List Str} {d : Nat} {M : List (Addr × List Str)} {m : List (List Key × V)} {g : Str → Str → Str → Str} (h : ES C H A pt L dw ms d M m g) (s : Same H H') : ES C H' A pt L dw ms d M m g := ⟨h.k.to s, h.w, h.j⟩
section
variable {P : Program} {w : World} {K : PySem.W.Frag} {mg : Str → Option Value} {base : Heap} {f : Addr} {fd : FuncData} {C : Addr} {cdv : Value} {A0 : Around} {outer : List Env} {s0 : Shared} {H0 : Hp} {E : XK}
variable {p A W pt L : Addr} {ms : List Str} {d : Nat} {M : List (Addr × List Str)} {v1 v2 v3 : V} {fu : Nat}
theorem st_w3 (Cs : CalL P w K mg base C) (T : Nm mg) (T6 : Nm6 mg) (hr : RoomL A0 s0 f cdv) : PS (LX P w K mg base f cdv A0 outer s0 H0 E) (wSt 3)
    (fun D σ H => ∃ (u0 u1 u3 u4 u5 u6 u7 u8 u9 u10 u12 u13 u14 u15 u16 u17 : Option V), σ = [u0, u1, some (.ref A), u3, u4, u5, u6, u7, u8, u9, u10, some (.ref pt), u12, u13, u14, u15, u16, u17] ∧ H A = some (.lst (ms.map V.str)) ∧ MarksOk ms ∧ TS8 C H pt L ms d M ∧
      ∀ (H' : Hp), Same H H' → D.nx σ H') := by
  obtain ⟨fK, dK, GK, bK, kK, gK⟩ := Cs.keeps.ex
  obtain ⟨fP, dP, GP, bP, kP, gPk⟩ := Cs.picker.ex
  refine pstW (ps_if (pt_not (pt_val (pe_callB (cr_all rfl) (by rfl) T6.all (by decide +kernel) (pa_cons
      (pe_lc (own := [("_law_number", 16)]) (g := gName 16) (tt := tYes) (te := tCall (spKeeps C) [] E0 (tCons (tVar 11) (tCons (tCall spPicker [] E0 (tCons (tVar 2) (tCons (tVar 16) tNil))) tNil))) rfl scLaw.nd (pi_range1 rfl T.range (pa_cons pe_int pa_nil)) (blkOk_by (own := [("_law_number", 16)]) (N := lawN) (sc := defScope sLaw) (by decide +kernel))
        (fun _ _ _ _ _ => pg_name (i := 16) scLaw.nd rfl (Or.inl rfl)) (fun _ _ _ _ _ => pts_nil)
        (fun _ _ _ _ _ => pe_call GK (hr.mono (by decide)) rfl gK kK bK .nil pass0 (pa_cons (pv 11) (pa_cons (pe_call GP (hr.mono (by decide)) rfl gPk kP bP .nil pass0 (pa_cons (pv 2) (pa_cons (pv 16) pa_nil))) pa_nil)))) pa_nil)))) (pss_one (ps_ret pe_bl)) pss_nil) fun D σ H h => ?_
  obtain ⟨u0, u1, u3, u4, u5, u6, u7, u8, u9, u10, u12, u13, u14, u15, u16, u17, rfl, hA, ok, hT, k⟩ := h
  have d3 := hT.d3
  have lM := hT.lM
  refine ⟨_, rfl, by decide, by decide, fun D1 nD => ?_⟩
  refine lc_range (lo := 0) (n := 3) (fun i Hx => Hx D1 = some (.lst ((List.replicate i true).map V.bl)) ∧ Same H Hx) ⟨upd_same, same_new nD⟩ ?_ ?_
  · rintro i Hx hi ⟨q1, sx⟩
    refine ⟨rfl, ?_⟩
    refine ⟨_, rfl, _, rfl, _, rfl, A, ms, i, by rw [show (0 + (i : Int)) = ((i : Nat) : Int) by omega] <;> rfl, sx _ _ hA, ok, by omega, fun Lp H1 nLp hLp s1 => ?_⟩
    have s01 : Same H H1 := fun b o e => s1 _ _ (sx _ _ e)
    have T1 := hT.to s01
    obtain ⟨dw, e, w1, w2⟩ := pick8 ok (show i ≤ 2 by omega) hLp
    cases e
    refine ⟨pt, Lp, ms, d, _, gP i, true, rfl, T1.t, ok, by omega, by rw [List.length_map]; omega, hT.rok, ⟨_, w1, w2⟩, ⟨fun _ => gP_keeps (by omega) fun r hr => (hT.rok r hr).1, fun _ => rfl⟩, fun H2 s2 => ?_⟩
    refine ⟨_, s2 _ _ (s1 _ _ q1), ?_, ?_, fun b o e => (upd_ne (ne_of_none e nD)).trans (s2 _ _ (s01 _ _ e))⟩
    · rw [List.length_map, List.length_replicate]
      exact len_ok (by omega)
    · rw [upd_same, List.replicate_succ', List.map_append] <;> rfl
  · rintro Hx ⟨q1, sx⟩
    refine ⟨D1, _, rfl, SqL.of q1, ?_⟩
    rw [all_rep]
    refine ⟨true, rfl, ?_⟩
    refine iteF ?_
    exact k Hx sx
theorem st_e0 (Cs : CalL P w K mg base C) (T : Nm mg) (T6 : Nm6 mg) (hr : RoomL A0 s0 f cdv) : PS (LX P w K mg base f cdv A0 outer s0 H0 E) (eSt 0)
    (fun D σ H => ∃ (u0 u1 u2 u3 u4 u5 u6 u7 u8 u11 u12 u13 u14 u15 u16 u17 : Option V), σ = [u0, u1, u2, u3, u4, u5, u6, u7, u8, some (.int ((d + 1 : Nat) : Int)), some (.ref L), u11, u12, u13, u14, u15, u16, u17] ∧ RowsAt H L M ∧ RowsOk ms (d + 1) (M.map (·.2)) ∧ d ≤ 2 ∧ M.length ≤ 3 ∧
      ∀ (q : Addr) (Wl : List (Addr × List (Addr × List Str))) (H' : Hp), H' q = some (.lst (Wl.map fun e => V.ref e.1)) → Paired (PairsIs H' (M.map (·.2))) Wl (twosN (d + 1)) → Same H H' → D.nx [u0, u1, u2, u3, u4, u5, u6, u7, u8, some (.int ((d + 1 : Nat) : Int)), some (.ref L), u11, u12, some (.ref q), u14, u15, u16, u17] H') := by
  obtain ⟨f2, d2, G2, b2, k2, g2⟩ := Cs.twos.ex
  obtain ⟨fP, dP, GP, bP, kP, gP⟩ := Cs.pairs.ex
  refine pstW (ps_setLc (i := 13) (own := [("_law_two", 17)]) (g := gName 17) (tt := tYes) (te := tCall spLPairRows [] E0 (tCons (tVar 10) (tCons (tOp (rIxT K) (tVar 17) (tC (.int 0))) (tCons (tOp (rIxT K) (tVar 17) (tC (.int 1))) tNil)))) rfl scLaw.nd rfl rfl (sw_true rfl rfl rfl (by decide +kernel)) (pi_list (pe_call G2 (hr.mono (by decide)) rfl g2 k2 b2 .nil pass0 (pa_cons (pv 9) pa_nil))) (blkOk_by (own := [("_law_two", 17)]) (N := lawN) (sc := defScope sLaw) (by decide +kernel))
        (fun _ _ _ _ _ => pg_name (i := 17) scLaw.nd rfl (Or.inl rfl)) (fun _ _ _ _ _ => pts_nil)
        (fun _ _ _ _ _ => pe_call GP (hr.mono (by decide)) rfl gP kP bP .nil pass0 (pa_cons (pv 10) (pa_cons (pe_ix ix_tup (pv 17) pe_int (fun _ _ => rfl)) (pa_cons (pe_ix ix_tup (pv 17) pe_int (fun _ _ => rfl)) pa_nil))))) fun D σ H h => ?_
  obtain ⟨u0, u1, u2, u3, u4, u5, u6, u7, u8, u11, u12, u13, u14, u15, u16, u17, rfl, hL, rok, d3, lM, k⟩ := h
  refine ⟨_, rfl, d, rfl, by omega, fun L2 M2 H1 nL2 hL2 eM2 hM2 s1 => ?_⟩
  have l10 : (twosN (d + 1)).length ≤ 10 := by
    match d, d3 with
    | 0, _ => decide
    | 1, _ => decide
    | 2, _ => decide
  refine ⟨L2, rfl, ⟨_, SqL.of hL2⟩, fun D1 nD => ?_⟩
  have lM2 : (M2.map fun e => V.ref e.1).length = (twosN (d + 1)).length := by rw [← eM2, List.length_map, List.length_map]
  refine lc_list (K := K) (a := L2) (xs := M2.map fun e => V.ref e.1) (fun i Hx => ∃ Wl : List (Addr × List (Addr × List Str)), Hx D1 = some (.lst (Wl.map fun e => V.ref e.1)) ∧ Wl.length = i ∧ Paired (PairsIs (hid D1 Hx) (M.map (·.2))) Wl ((twosN (d + 1)).take i) ∧ Same H1 Hx) ⟨[], upd_same, rfl, by rw [List.take_zero]; exact .nil, same_new nD⟩ (fun i Hx _ ⟨_, _, _, _, z⟩ => SqL.of (z _ _ hL2)) ?_ ?_
  · rintro i v Hx ev ⟨Wl, q1, lW, pr, sx⟩
    rw [List.getElem?_map] at ev
    obtain ⟨u, hu, rfl⟩ := Option.map_eq_some_iff.mp ev
    have um := List.mem_of_getElem? hu
    have er : (twosN (d + 1))[i]? = some u.2 := by rw [← eM2, List.getElem?_map, hu] <;> rfl
    have il := (List.getElem?_eq_some_iff.mp er).1
    obtain ⟨h1, h2⟩ := twosN_mem.mp (List.mem_of_getElem? er)
    have s0x : Same H Hx := fun b o e => sx _ _ (s1 _ _ e)
    have hx := sx _ _ (hM2 u um)
    refine ⟨rfl, ?_⟩
    refine ⟨_, rfl, _, rfl, u.1, _, _, V.int (u.2.1 : Nat), rfl, rfl, SqT.of hx, rfl, _, rfl, u.1, _, _, V.int (u.2.2 : Nat), rfl, rfl, SqT.of hx, rfl, L, u.2.1, u.2.2, d, M, rfl, hL.to s0x, fun e he => (rok _ (List.mem_map.mpr ⟨e, he, rfl⟩)).1, by omega, h2, by omega, fun L3 N H2 nL3 hL3 RN mN s2 => ?_⟩
    have nL3D : L3 ≠ D1 := fun z => by
      rw [z, q1] at nL3
      cases nL3
    have hD2 := s2 _ _ q1
    have nrow : ∀ e ∈ N, e.1 ≠ D1 := fun e he z => by
      have := RN.at_ e he
      rw [z, hD2] at this
      cases this
    refine ⟨_, hD2, by rw [List.length_map]; exact len_ok (by omega), Wl ++ [(L3, N)], by rw [upd_same, List.map_append] <;> rfl, by rw [List.length_append, lW] <;> rfl, ?_, fun b o e => (upd_ne (ne_of_none e nD)).trans (s2 _ _ (sx _ _ e))⟩
    rw [List.take_add_one, er]
    refine Paired.snoc (Paired.mapP pr fun _ _ z => (z.to (Same.hid s2)).to hid_upd) ⟨RowsAt.to (H := hid D1 H2) ⟨hid_at nL3D hL3, fun e he => hid_at (nrow e he) (RN.at_ e he)⟩ hid_upd, mN⟩
  · rintro Hx ⟨Wl, q1, lW, pr, sx⟩
    rw [lM2, List.take_length] at pr
    exact k D1 Wl Hx q1 (Paired.mapP pr fun _ _ z => z.to (hid_same D1 Hx)) fun b o e => sx _ _ (s1 _ _ e)
theorem st_e1 (Cs : CalL P w K mg base C) (T : Nm mg) (T6 : Nm6 mg) (hr : RoomL A0 s0 f cdv) : PS (LX P w K mg base f cdv A0 outer s0 H0 E) (eSt 1)
    (fun D σ H => ∃ (u0 u1 u2 u3 u4 u5 u6 u7 u8 u9 u10 u11 u14 u15 u16 u17 : Option V) (dw q : Addr) (m : List (List Key × V)) (g : Str → Str → Str → Str) (Wl : List (Addr × List (Addr × List Str))), σ = [u0, u1, u2, u3, u4, u5, u6, u7, u8, u9, u10, u11, some (.ref dw), some (.ref q), u14, u15, u16, u17] ∧ ES C H A pt L dw ms d M m g ∧ H q = some (.lst (Wl.map fun e => V.ref e.1)) ∧ Paired (PairsIs H (M.map (·.2))) Wl (twosN (d + 1)) ∧
      ∀ (H' : Hp), Same H H' → D.nx [u0, u1, u2, u3, u4, u5, u6, u7, u8, u9, u10, u11, some (.ref dw), some (.ref q), some (.bl ((twosN (d + 1)).all (clB g (M.map (·.2))))), u15, u16, u17] H') := by
  obtain ⟨fB, dB, GB, bB, kB, gB⟩ := Cs.broken.ex
  refine pstW (ps_set (i := 14) scLaw.nd rfl (Or.inl rfl) (pe_callB (cr_all rfl) (by rfl) T6.all (by decide +kernel) (pa_cons
      (pe_lc (own := [("_law_some", 7)]) (g := gName 7) (tt := tYes) (te := tOp rIsN (tCall spLBroken [] E0 (tCons (tVar 12) (tCons (tVar 7) tNil))) (tC .non)) rfl scLaw.nd (pi_list (pv 13)) (blkOk_by (own := [("_law_some", 7)]) (N := lawN) (sc := defScope sLaw) (by decide +kernel))
        (fun _ _ _ _ _ => pg_name (i := 7) scLaw.nd rfl (Or.inl rfl)) (fun _ _ _ _ _ => pts_nil)
        (fun _ _ _ _ _ => pe_cmpR op_isN1 (pe_call GB (hr.mono (by decide)) rfl gB kB bB .nil pass0 (pa_cons (pv 12) (pa_cons (pv 7) pa_nil))) pe_non (nomark _))) pa_nil))) fun D σ H h => ?_
  obtain ⟨u0, u1, u2, u3, u4, u5, u6, u7, u8, u9, u10, u11, u14, u15, u16, u17, dw, q, m, g, Wl, rfl, hE, hq, pr, k⟩ := h
  have d3 := hE.k.d3
  have l10 : (twosN (d + 1)).length ≤ 10 := by
    match d, d3 with
    | 0, _ => decide
    | 1, _ => decide
    | 2, _ => decide
  have lW : Wl.length = (twosN (d + 1)).length := Paired.length pr
  have lWm : (Wl.map fun e => V.ref e.1).length = (twosN (d + 1)).length := by rw [List.length_map, lW]
  refine ⟨_, rfl, q, rfl, ⟨_, SqL.of hq⟩, fun D1 nD => ?_⟩
  refine lc_list (K := K) (a := q) (xs := Wl.map fun e => V.ref e.1) (fun i Hx => Hx D1 = some (.lst ((((twosN (d + 1)).take i).map (clB g (M.map (·.2)))).map V.bl)) ∧ Same H Hx) ⟨upd_same, same_new nD⟩ (fun i Hx _ z => SqL.of (z.2 _ _ hq)) ?_ ?_
  · rintro i v Hx ev ⟨q1, sx⟩
    rw [List.getElem?_map] at ev
    obtain ⟨e, ee, rfl⟩ := Option.map_eq_some_iff.mp ev
    obtain ⟨t, et, hR, hmem⟩ := paired_at' pr ee
    have tm := List.mem_of_getElem? et
    have il := (List.getElem?_eq_some_iff.mp et).1
    refine ⟨rfl, ?_⟩
    refine ⟨_, rfl, _, rfl, dw, e.1, ms, g, 2, e.2, rfl, ((hE.to sx).k.way).at_, hR.to sx, fun r hr => two_ok hE.k.rok tm r ((hmem r).mp hr), by decide, broken_end fun u H1 eu s1 => ?_⟩
    have ed : decide (u = V.non) = clB g (M.map (·.2)) t := by
      rw [Bool.eq_iff_iff, decide_eq_true_iff, clB_iff, eu]
      exact closed_same hmem
    refine ⟨rfl, ?_⟩
    rw [ed]
    refine ⟨_, s1 _ _ q1, ?_, ?_, fun b o e => (upd_ne (ne_of_none e nD)).trans (s1 _ _ (sx _ _ e))⟩
    · rw [List.length_map, List.length_map, List.length_take]
      exact len_ok (by omega)
    · rw [upd_same, List.take_add_one, et, List.map_append, List.map_append] <;> rfl
  · rintro Hx ⟨q1, sx⟩
    rw [lWm, List.take_length] at q1
    refine ⟨D1, _, rfl, SqL.of q1, ?_⟩
    have e1 : ((twosN (d + 1)).map (clB g (M.map (·.2)))).all id = (twosN (d + 1)).all (clB g (M.map (·.2))) := by
      rw [List.all_map] <;> rfl
    rw [e1]
    exact k Hx sx
theorem st_e2 (Cs : CalL P w K mg base C) (T : Nm mg) (T6 : Nm6 mg) (hr : RoomL A0 s0 f cdv) : PS (LX P w K mg base f cdv A0 outer s0 H0 E) (eSt 2)
    (fun D σ H => ∃ (u0 u1 u2 u3 u4 u5 u6 u7 u8 u9 u10 u13 u15 u16 u17 : Option V) (dw : Addr) (m : List (List Key × V)) (g : Str → Str → Str → Str), σ = [u0, u1, u2, u3, u4, u5, u6, u7, u8, u9, u10, some (.ref pt), some (.ref dw), u13, some (.bl ((twosN (d + 1)).all (clB g (M.map (·.2))))), u15, u16, u17] ∧ ES C H A pt L dw ms d M m g ∧
      ∀ (H' : Hp), Same H H' → D.nx σ H') := by
  obtain ⟨fK, dK, GK, bK, kK, gK⟩ := Cs.keepsP.ex
  obtain ⟨fX, dX, GX, bX, kX, gX⟩ := Cs.ex.ex
  refine pstW (ps_if (pt_not (pt_val (pe_call GX (hr.mono (by decide)) rfl gX kX bX .nil pass0 (pa_cons (pe_call GK (hr.mono (by decide)) rfl gK kK bK .nil pass0 (pa_cons (pv 11) (pa_cons (pv 12) pa_nil))) (pa_cons (pv 14) pa_nil))))) (pss_one (ps_ret pe_bl)) pss_nil) fun D σ H h => ?_
  obtain ⟨u0, u1, u2, u3, u4, u5, u6, u7, u8, u9, u10, u13, u15, u16, u17, dw, m, g, rfl, hE, k⟩ := h
  have d3 := hE.k.d3
  have lM := hE.k.lM
  refine ⟨_, rfl, _, rfl, pt, dw, ms, d, _, g, m, rfl, hE.k.t, hE.k.ok, by omega, by rw [List.length_map]; omega, hE.k.rok, hE.k.w, hE.j, hE.k.v, fun H1 s1 => ?_⟩
  refine ⟨_, rfl, [], _, _, rfl, Ex.leaf rfl, fun H2 s2 => ⟨true, rfl, ?_⟩⟩
  refine iteF ?_
  exact k H2 fun b o e => s2 _ _ (s1 _ _ e)
open Classical in
theorem st_e3 (Cs : CalL P w K mg base C) (T : Nm mg) (T6 : Nm6 mg) (hr : RoomL A0 s0 f cdv) : PS (LX P w K mg base f cdv A0 outer s0 H0 E) (eSt 3)
    (fun D σ H => ∃ (u0 u1 u3 u4 u5 u6 u7 u8 u11 u13 u15 u16 u17 : Option V) (dw : Addr) (m : List (List Key × V)) (g : Str → Str → Str → Str), σ = [u0, u1, some (.ref A), u3, u4, u5, u6, u7, u8, some (.int ((d + 1 : Nat) : Int)), some (.ref L), u11, some (.ref dw), u13, some (.bl ((twosN (d + 1)).all (clB g (M.map (·.2))))), u15, u16, u17] ∧ ES C H A pt L dw ms d M m g ∧
      ∀ (H' : Hp), Same H H' → D.nx σ H') := by
  obtain ⟨fB, dB, GB, bB, kB, gB⟩ := Cs.broken.ex
  obtain ⟨fP, dP, GP, bP, kP, gP⟩ := Cs.byP.ex
  refine pstW (ps_if (pt_cmpR op_ne (pe_cmpR op_isN1 (pe_call GB (hr.mono (by decide)) rfl gB kB bB .nil pass0 (pa_cons (pv 12) (pa_cons (pv 10) pa_nil))) pe_non (nomark _))
      (pe_and (pv 14) (pe_one (pe_cmpR (op_eqD hr.units) (pe_call GP (hr.mono (by decide)) rfl gP kP bP .nil pass0 (pa_cons (pv 2) (pa_cons (pv 9) (pa_cons (pv 10) pa_nil)))) (pv 10) (nomark _)))) (nomark _)) (pss_one (ps_ret pe_bl)) pss_nil) fun D σ H h => ?_
  obtain ⟨u0, u1, u3, u4, u5, u6, u7, u8, u11, u13, u15, u16, u17, dw, m, g, rfl, hE, k⟩ := h
  have d3 := hE.k.d3
  have lM := hE.k.lM
  have kept := kept_iff hE.w hE.k.ok.2.2.1 hE.k.rok hE.k.t.up
  have eall : (twosN (d + 1)).all (clB g (M.map (·.2))) = true ↔ ∀ p ∈ twosN (d + 1), ClosedG g ((M.map (·.2)).map (two p.1 p.2)) := by
    rw [List.all_eq_true]
    exact ⟨fun h p hp => clB_iff.mp (h p hp), fun h p hp => clB_iff.mpr (h p hp)⟩
  refine ⟨_, rfl, _, rfl, dw, L, ms, g, d + 1, M, rfl, hE.k.way.at_, hE.k.l, hE.k.rok, by omega, broken_end fun u H1 eu s1 => ?_⟩
  have E1 := hE.to s1
  refine ⟨rfl, _, rfl, _, rfl, ?_⟩
  by_cases c : (twosN (d + 1)).all (clB g (M.map (·.2))) = true
  · rw [c] at k ⊢
    refine iteT ?_
    refine ⟨_, rfl, _, rfl, _, rfl, A, L, ms, d, M, rfl, E1.k.a, E1.k.l, fun e he => (E1.k.len he).1, E1.k.few, by omega, by omega, fun L2 N H2 nL2 hL2 eN s2 => ?_⟩
    have E2 := E1.to s2
    have wN : ∀ r ∈ N.map (·.2), ∀ z ∈ r, WordOk z := fun r hr z hz => by
      rw [eN] at hr
      exact E2.k.ok.2.2.2 z (((rowsN_mem ms (d + 1) r).mp (List.mem_filter.mp hr).1).2 z hz)
    refine ⟨_, rfl, _, _, .lst (SqL.of hL2.1) (dp_rows hL2.2), .lst (SqL.of E2.k.l.1) (dp_rows E2.k.l.2), rows_shaped wN, rows_shaped E2.k.wrd, ?_⟩
    refine ⟨rfl, false, ?_, ?_⟩
    · have e1 : PyData.eqv (.list ((N.map (·.2)).map rowD)) (.list ((M.map (·.2)).map rowD)) = decide (u = V.non) := by
        have e0 : PyData.eqv (.list ((N.map (·.2)).map rowD)) (.list ((M.map (·.2)).map rowD)) = PyData.eqvAll ((N.map (·.2)).map rowD) ((M.map (·.2)).map rowD) := by rw [PyData.eqv]
        rw [e0, eqv_rows, decide_eq_decide, eu, kept, eN]
        exact ⟨fun h => ⟨eall.mp c, h⟩, fun h => h.2⟩
      rw [e1, decide_eq_true rfl] <;> rfl
    refine iteF ?_
    exact k H2 fun b o e => s2 _ _ (s1 _ _ e)
  · rw [Bool.eq_false_iff.mpr c] at k ⊢
    refine iteF ?_
    refine ⟨rfl, false, ?_, ?_⟩
    · have e1 : decide (u = V.non) = false := decide_eq_false fun z => c (eall.mpr (kept.mp (eu.mp z)).1)
      rw [e1, decide_eq_true rfl] <;> rfl
    refine iteF ?_
    exact k H1 s1
end
end Yt

set_option Elab.async false
set_option linter.all false
set_option maxRecDepth 100000
set_option maxHeartbeats 4000000
namespace Yt
open PySem PySem.Spec PyProof.Rows L2
section
variable {P : Program} {w : World} {K : PySem.W.Frag} {mg : Str → Option Value} {base : Heap} {f : Addr} {fd : FuncData} {C : Addr} {cdv : Value} {A0 : Around} {outer : List Env} {s0 : Shared} {H0 : Hp} {E : XK}
variable {p A W pt L : Addr} {ms : List Str} {d : Nat} {M : List (Addr × List Str)} {v1 v2 v3 : V} {fu : Nat}
theorem st_w4 (Cs : CalL P w K mg base C) (T : Nm mg) (T6 : Nm6 mg) (hr : RoomL A0 s0 f cdv) : PS (LX P w K mg base f cdv A0 outer s0 H0 E) (wSt 4)
    (fun D σ H => ∃ (u0 u1 u3 u5 u6 u7 u8 u12 u13 u14 u15 u16 u17 : Option V), σ = [u0, u1, some (.ref A), u3, some (.ref W), u5, u6, u7, u8, some (.int ((d + 1 : Nat) : Int)), some (.ref L), some (.ref pt), u12, u13, u14, u15, u16, u17] ∧ LS H A W ms v1 v2 v3 ∧ TS8 C H pt L ms d M ∧
      ∀ (v12 v13 v14 : Option V) (H' : Hp), Same H H' → D.nx [u0, u1, some (.ref A), u3, some (.ref W), u5, u6, u7, u8, some (.int ((d + 1 : Nat) : Int)), some (.ref L), some (.ref pt), v12, v13, v14, u15, u16, u17] H') := by
  refine pstW (ps_for PassesOwn.never rfl (pi_list (pe_slice sl_list (pv 4) po_none (po_some pe_int))) (pg_name (i := 12) scLaw.nd rfl (Or.inr rfl))
    (pss_cons (st_e0 (L := L) (ms := ms) (d := d) (M := M) Cs T T6 hr) (pss_cons (st_e1 (A := A) (pt := pt) (L := L) (ms := ms) (d := d) (M := M) Cs T T6 hr) (pss_cons (st_e2 (A := A) (pt := pt) (L := L) (ms := ms) (d := d) (M := M) Cs T T6 hr) (pss_one (st_e3 (A := A) (pt := pt) (L := L) (ms := ms) (d := d) (M := M) Cs T T6 hr)))))) fun D σ H h => ?_
  obtain ⟨u0, u1, u3, u5, u6, u7, u8, u12, u13, u14, u15, u16, u17, rfl, hL, hT, k⟩ := h
  refine ⟨_, rfl, _, rfl, W, _, rfl, SqL.of hL.ws, fun q1 n1 => ?_⟩
  generalize etl : cutV [v1, v2, v3] none (some 2) = tl
  obtain rfl : tl = [v1, v2] := by rw [← etl] <;> rfl
  clear etl
  have s1 := same_new (o := .lst [v1, v2]) n1
  have h1 := upd_same (H := H) (a := q1) (o := .lst [v1, v2])
  generalize upd H q1 (.lst [v1, v2]) = H1 at s1 h1 ⊢
  refine ⟨q1, rfl, ⟨_, SqL.of h1⟩, for_list (K := K) (a := q1) (xs := [v1, v2]) (fun i σ Hx => ∃ v12 v13 v14 : Option V, σ = [u0, u1, some (.ref A), u3, some (.ref W), u5, u6, u7, u8, some (.int ((d + 1 : Nat) : Int)), some (.ref L), some (.ref pt), v12, v13, v14, u15, u16, u17] ∧ Same H1 Hx)
    ⟨_, _, _, rfl, fun _ _ e => e⟩ (fun i σ Hx _ ⟨_, _, _, _, z⟩ => SqL.of (z _ _ h1)) ?_ ?_⟩
  · rintro i v σ Hx ev ⟨v12, v13, v14, rfl, sx⟩
    have s0x : Same H Hx := fun b o e => sx _ _ (s1 _ _ e)
    have hLx := hL.to s0x
    have hTx := hT.to s0x
    obtain ⟨m, g, ⟨dw, rfl, w1, w2⟩, wg, wj⟩ : ∃ m g, Maj8 Hx ms v m g := by
      match i, ev with
      | 0, ev => cases ev; exact hLx.w1
      | 1, ev => cases ev; exact hLx.w2
    have hE : ES C Hx A pt L dw ms d M m g := ⟨hTx.ks hLx w1 w2, wg, wj⟩
    refine ⟨_, _, _, _, _, _, _, _, _, _, _, _, _, _, _, _, rfl, hTx.l, hTx.rok, hTx.d3, hTx.lM, fun q Wl H2 hq pr s2 => ?_⟩
    have E2 := hE.to s2
    refine ⟨_, _, _, _, _, _, _, _, _, _, _, _, _, _, _, _, dw, q, m, g, Wl, rfl, E2, hq, pr, fun H3 s3 => ?_⟩
    have E3 := E2.to s3
    refine ⟨_, _, _, _, _, _, _, _, _, _, _, _, _, _, _, dw, m, g, rfl, E3, fun H4 s4 => ?_⟩
    have E4 := E3.to s4
    refine ⟨_, _, _, _, _, _, _, _, _, _, _, _, _, dw, m, g, rfl, E4, fun H5 s5 => ?_⟩
    exact ⟨_, _, _, rfl, fun b o e => s5 _ _ (s4 _ _ (s3 _ _ (s2 _ _ (sx _ _ e))))⟩
  · rintro σ Hx ⟨v12, v13, v14, rfl, sx⟩
    exact k v12 v13 v14 Hx fun b o e => sx _ _ (s1 _ _ e)
/-- the drawn way -/
theorem st_l1 (Cs : CalL P w K mg base C) (T : Nm mg) (T6 : Nm6 mg) (hr : RoomL A0 s0 f cdv) : PS (LX P w K mg base f cdv A0 outer s0 H0 E) (lSt 1)
    (fun D σ H => ∃ (u0 u3 u4 u5 u6 u7 u8 u9 u10 u11 u12 u13 u14 u15 u16 u17 : Option V), σ = [u0, some (.ref p), some (.ref A), u3, u4, u5, u6, u7, u8, u9, u10, u11, u12, u13, u14, u15, u16, u17] ∧ PurseAt H p (fu + 27) ∧ hid p H A = some (.lst (ms.map V.str)) ∧ MarksOk ms ∧ ms.length ≤ 3 ∧
      ∀ (q : Addr) (H' : Hp), (∃ m g, Way8 (hid p H') ms (.ref q) m g) → PurseAt H' p fu → But p H H' → D.nx [u0, some (.ref p), some (.ref A), some (.ref q), u4, u5, u6, u7, u8, u9, u10, u11, u12, u13, u14, u15, u16, u17] H') := by
  obtain ⟨fO, dO, GO, bO, kO, gO⟩ := Cs.one.ex
  obtain ⟨fT, dT, GT, bT, kT, gT⟩ := Cs.threes.ex
  have hu4 := units4 hr
  refine pstW (ps_set (i := 3) scLaw.nd rfl (Or.inl rfl) (pe_callTy (call_dictPT rfl (units_le hu4 (by decide))) (by rfl) T6.dict (by decide +kernel) (pa_cons
      (pe_lc (own := [("_law_three", 15)]) (g := gName 15) (tt := tYes) (te := tTup (tCons (tVar 15) (tCons (tCall (spOne K) [] E0 (tCons (tVar 1) (tCons (tVar 2) tNil))) tNil))) rfl scLaw.nd (pi_list (pe_call GT (hr.mono (by decide)) rfl gT kT bT .nil pass0 (pa_cons (pv 2) pa_nil))) (blkOk_by (own := [("_law_three", 15)]) (N := lawN) (sc := defScope sLaw) (by decide +kernel))
        (fun _ _ _ _ _ => pg_name (i := 15) scLaw.nd rfl (Or.inl rfl)) (fun _ _ _ _ _ => pts_nil)
        (fun _ _ _ _ _ => pe_tup (pa_cons (pv 15) (pa_cons (pe_call GO (hr.mono (by decide)) rfl gO kO bO .nil pass0 (pa_cons (pv 1) (pa_cons (pv 2) pa_nil))) pa_nil)))) pa_nil))) fun D σ H h => ?_
  obtain ⟨u0, u3, u4, u5, u6, u7, u8, u9, u10, u11, u12, u13, u14, u15, u16, u17, rfl, hP, hA, ok, few, k⟩ := h
  have nA : A ≠ p := fun z => by
    rw [z, hid_off] at hA
    cases hA
  have hA' := hid_same p H _ _ hA
  have l2 : 2 ≤ sizeLine := by decide
  refine ⟨_, rfl, A, ms, rfl, SqL.of hA', by omega, fun L1 ts H1 nL1 hL1 pr s1 => ?_⟩
  have hP1 : PurseAt H1 p (fu + 27) := hP.to fun o z => s1 _ _ z
  have nL1p := hP.ne nL1
  have l27 : (growN ms 3).length ≤ 27 := by
    rw [growN_len]
    exact Nat.le_trans (Nat.pow_le_pow_left few 3) (by decide)
  have lts : ts.length = (growN ms 3).length := Paired.length pr
  have ltm : (ts.map V.ref).length = (growN ms 3).length := by rw [List.length_map, lts]
  refine ⟨L1, rfl, ⟨_, SqL.of hL1⟩, fun D1 nD => ?_⟩
  have nDp := hP1.ne nD
  refine lc_list (K := K) (a := L1) (xs := ts.map V.ref) (fun i Hx => ∃ E : List (Addr × Addr × List Key × V), Hx D1 = some (.lst (E.map fun e => V.ref e.1)) ∧ E.map (fun e => e.2.2.1) = (growN ms 3).take i ∧ (∀ e ∈ E, (∃ z ∈ ms, e.2.2.2 = V.str z) ∧ hid D1 (hid p Hx) e.2.1 = some (.tup (e.2.2.1.map kV)) ∧ hid D1 (hid p Hx) e.1 = some (.tup [.ref e.2.1, e.2.2.2])) ∧ PurseAt Hx p (fu + 27 - i) ∧ But p H1 Hx)
    ⟨[], upd_same, by rw [List.take_zero] <;> rfl, (fun e he => nomatch he), hP1.at_ne nDp, Same.but (same_new nD)⟩ (fun i Hx _ ⟨_, _, _, _, _, z⟩ => SqL.of (z _ _ nL1p hL1)) ?_ ?_
  · rintro i v Hx ev ⟨E, hD, eE, hE, hPx, bx⟩
    rw [List.getElem?_map] at ev
    obtain ⟨t, et, rfl⟩ := Option.map_eq_some_iff.mp ev
    obtain ⟨key, ek, hkey⟩ := paired_at' pr et
    have hkey : H1 t = some (.tup (key.map kV)) := hkey
    have il := (List.getElem?_eq_some_iff.mp ek).1
    have lE : E.length = i := by
      have := congrArg List.length eE
      rw [List.length_map, List.length_take] at this
      omega
    have ef : fu + 27 - i = fu + 27 - (i + 1) + 1 := by omega
    rw [ef] at hPx
    refine ⟨rfl, ?_⟩
    refine ⟨_, rfl, _, rfl, _, rfl, p, A, fu + 27 - (i + 1), ms.map V.str, rfl, hPx, SqL.of (bx _ _ nA (s1 _ _ hA')), nA, by rw [List.length_map]; have := ok.1; omega, fun j x H3 hj hP3 b3 => ?_⟩
    rw [List.getElem?_map] at hj
    obtain ⟨c, hc, rfl⟩ := Option.map_eq_some_iff.mp hj
    refine ⟨l2, fun q nq => ?_⟩
    have sq := same_new (o := .tup [V.ref t, V.str c]) nq
    have hq := upd_same (H := H3) (a := q) (o := .tup [V.ref t, V.str c])
    have hPq : PurseAt (upd H3 q (.tup [V.ref t, V.str c])) p (fu + 27 - (i + 1)) := hP3.to fun o z => sq _ _ z
    have bq : But p Hx (upd H3 q (.tup [V.ref t, V.str c])) := b3.trans (Same.but sq)
    have nqp := hP3.ne nq
    have nqD : q ≠ D1 := fun z => by
      rw [z, b3 _ _ nDp hD] at nq
      cases nq
    generalize upd H3 q (.tup [V.ref t, V.str c]) = H4 at sq hq hPq bq ⊢
    have b14 : But p H1 H4 := bx.trans bq
    refine ⟨_, bq _ _ nDp hD, by rw [List.length_map]; exact len_ok (by omega), E ++ [(q, t, key, V.str c)], by rw [upd_same, List.map_append] <;> rfl, ?_, fun e he => ?_, hPq.at_ne nDp, fun b o nb e => (upd_ne (ne_of_none e nD)).trans (b14 _ _ nb e)⟩
    · rw [List.map_append, eE, List.take_add_one, ek] <;> rfl
    · rcases List.mem_append.mp he with he | he
      · obtain ⟨a1, a2, a3⟩ := hE e he
        exact ⟨a1, hid2_upd _ _ ((Same.hid (But.hid bq)) _ _ a2), hid2_upd _ _ ((Same.hid (But.hid bq)) _ _ a3)⟩
      · rw [List.mem_singleton.mp he]
        have ntp : t ≠ p := tup_off hP1 hkey
        have ntD : t ≠ D1 := ne_of_none hkey nD
        exact ⟨⟨c, List.mem_of_getElem? hc, rfl⟩, hid2_upd _ _ (hid_at ntD (hid_at ntp (b14 _ _ ntp hkey))), hid2_upd _ _ (hid_at nqD (hid_at nqp hq))⟩
  · rintro Hx ⟨E, hD, eE, hE, hPx, bx⟩
    rw [ltm, List.take_length] at eE
    have un : ∀ {a : Addr} {o : HO}, hid D1 (hid p Hx) a = some o → Hx a = some o := fun e => hid_same p Hx _ _ (hid_same D1 _ _ _ e)
    refine ⟨D1, E.map (·.1), E.map (·.2), rfl, SqL.of (by rw [List.map_map]; exact hD), paired_maps fun e he => ⟨SqT.of (un (hE e he).2.2), un (hE e he).2.1⟩, fun q nq => ?_⟩
    have ek : ((E.map (·.2)).map (·.2)).map (·.1) = growN ms 3 := by rw [List.map_map, List.map_map, ← eE] <;> rfl
    have nd : (((E.map (·.2)).map (·.2)).map (·.1)).Nodup := by rw [ek]; exact growN_nodup ok.2.2.1.nodup 3
    rw [mergeT_unlike _ [] (by rw [List.nil_append]; exact nd), List.nil_append]
    have nqp := hPx.ne nq
    have sq := same_new (o := .dT ((E.map (·.2)).map (·.2))) nq
    refine k q _ ⟨_, way8_of ok.2.2.1.nodup (hid_at nqp upd_same) ek fun e he => ?_⟩ ((hPx.less (by omega)).at_ne nqp) fun b o nb e => sq _ _ (bx _ _ nb (s1 _ _ e))
    rw [List.map_map] at he
    obtain ⟨u, hu, rfl⟩ := List.mem_map.mp he
    exact (hE u hu).1
end
end Yt

set_option Elab.async false
set_option linter.all false
set_option maxRecDepth 100000
set_option maxHeartbeats 4000000
namespace Yt
open PySem PySem.Spec PyProof.Rows L2
section
variable {P : Program} {w : World} {K : PySem.W.Frag} {mg : Str → Option Value} {base : Heap} {f : Addr} {fd : FuncData} {C : Addr} {cdv : Value} {A0 : Around} {outer : List Env} {s0 : Shared} {H0 : Hp} {E : XK}
variable {p A W pt L : Addr} {ms : List Str} {d : Nat} {M : List (Addr × List Str)} {v1 v2 v3 : V} {fu : Nat}
theorem hid_ne {p A : Addr} {H : Hp} {o : HO} (h : hid p H A = some o) : A ≠ p := fun z => by
  rw [z, hid_off] at h
  cases h
/-- the three ways -/
theorem st_l2 (Cs : CalL P w K mg base C) (T : Nm mg) (T6 : Nm6 mg) (hr : RoomL A0 s0 f cdv) : PS (LX P w K mg base f cdv A0 outer s0 H0 E) (lSt 2)
    (fun D σ H => ∃ (u0 u4 u5 u6 u7 u8 u9 u10 u11 u12 u13 u14 u15 u16 u17 : Option V) (w3 : Addr), σ = [u0, some (.ref p), some (.ref A), some (.ref w3), u4, u5, u6, u7, u8, u9, u10, u11, u12, u13, u14, u15, u16, u17] ∧ PurseAt H p (fu + 130) ∧ hid p H A = some (.lst (ms.map V.str)) ∧ MarksOk ms ∧ ms.length ≤ 3 ∧ (∃ m g, Way8 (hid p H) ms (.ref w3) m g) ∧
      ∀ (W : Addr) (v1 v2 v3 : V) (H' : Hp), LS (hid p H') A W ms v1 v2 v3 → PurseAt H' p fu → But p H H' → D.nx [u0, some (.ref p), some (.ref A), some (.ref w3), some (.ref W), u5, u6, u7, u8, u9, u10, u11, u12, u13, u14, u15, u16, u17] H') := by
  obtain ⟨fJ, dJ, GJ, bJ, kJ, gJ⟩ := Cs.maj.ex
  obtain ⟨fM, dM, GM, bM, kM, gM⟩ := Cs.mid.ex
  obtain ⟨fS, dS, GS, bS, kS, gS⟩ := Cs.shuf.ex
  refine pstW (ps_set (i := 4) scLaw.nd rfl (Or.inl rfl) (pe_lst (pa_cons (pe_call GJ (hr.mono (by decide)) rfl gJ kJ bJ .nil pass0 (pa_cons (pv 1) (pa_cons (pv 2) pa_nil)))
      (pa_cons (pe_call GM (hr.mono (by decide)) rfl gM kM bM .nil pass0 (pa_cons (pe_call GS (hr.mono (by decide)) rfl gS kS bS .nil pass0 (pa_cons (pv 1) (pa_cons (pv 2) pa_nil))) pa_nil)) (pa_cons (pv 3) pa_nil))))) fun D σ H h => ?_
  obtain ⟨u0, u4, u5, u6, u7, u8, u9, u10, u11, u12, u13, u14, u15, u16, u17, w3, rfl, hP, hA, ok, few, hw3, k⟩ := h
  have nA := hid_ne hA
  have hA' := hid_same p H _ _ hA
  refine ⟨_, rfl, _, rfl, p, A, ms, fu + 5, rfl, nA, hA', ok, hP.less (by omega), fun L1 m1 H1 nL1 hL1 hk hv hP1 b1 => ?_⟩
  have nL1p := hP.ne nL1
  have hA1 := b1 _ _ nA hA'
  refine ⟨_, rfl, _, rfl, p, A, fu, ms.map V.str, rfl, nA, hP1.less (by rw [List.length_map]; omega), SqL.of hA1, by rw [List.length_map]; omega, fun L2 ys H2 pm nL2 hL2 hP2 b2 => ?_⟩
  obtain ⟨os, rfl, po⟩ := map_perm (f := V.str) pm ms rfl
  have nL2p := hP1.ne nL2
  refine ⟨L2, ms, os, rfl, hL2, ok, po, fun L3 H3 nL3 hL3 s3 => ?_⟩
  have nL3p := hP2.ne nL3
  have hP3 : PurseAt H3 p fu := hP2.to fun o z => s3 _ _ z
  refine ⟨_, rfl, (by show 3 ≤ sizeLine; decide), fun q nq => ?_⟩
  have nqp := hP3.ne nq
  have sq := same_new (o := .lst [V.ref L1, V.ref L3, V.ref w3]) nq
  have hq := upd_same (H := H3) (a := q) (o := .lst [V.ref L1, V.ref L3, V.ref w3])
  have hPq : PurseAt (upd H3 q (.lst [V.ref L1, V.ref L3, V.ref w3])) p fu := hP3.to fun o z => sq _ _ z
  generalize upd H3 q (.lst [V.ref L1, V.ref L3, V.ref w3]) = H4 at sq hq hPq ⊢
  have b14 : But p H1 H4 := b2.trans ((Same.but s3).trans (Same.but sq))
  have b04 : But p H H4 := b1.trans b14
  have maj1 : ∃ m g, Maj8 (hid p H4) ms (.ref L1) m g := ⟨m1, maj8_of ok.2.2.1.nodup (hid_at nL1p (b14 _ _ nL1p hL1)) hk hv⟩
  have maj2 : ∃ m g, Maj8 (hid p H4) ms (.ref L3) m g := ⟨_, mid8_of ok po (hid_at nL3p (sq _ _ hL3))⟩
  have way3 : ∃ m g, Way8 (hid p H4) ms (.ref w3) m g := let ⟨m, g, x⟩ := hw3; ⟨m, g, x.to (But.hid b04)⟩
  exact k q _ _ _ H4 ⟨hid_at nA (b04 _ _ nA hA'), ok, few, hid_at nqp hq, maj1, maj2, way3⟩ hPq b04
open Classical in
/-- the table over four marks -/
theorem st_l6 (Cs : CalL P w K mg base C) (T : Nm mg) (T6 : Nm6 mg) (hr : RoomL A0 s0 f cdv) : PS (LX P w K mg base f cdv A0 outer s0 H0 E) (lSt 6)
    (fun D σ H => ∃ (u0 u1 u2 u3 u4 u5 u9 u10 u11 u12 u13 u14 u15 u16 u17 : Option V) (dw l q : Addr) (ms : List Str) (m : List (List Key × V)) (g : Str → Str → Str → Str) (M : List (Addr × List Str)), σ = [u0, u1, u2, u3, u4, u5, some (.ref dw), some (.ref l), some (.ref q), u9, u10, u11, u12, u13, u14, u15, u16, u17] ∧ MarksOk ms ∧ Maj8 H ms (.ref dw) m g ∧ RowsAt H l M ∧ RowsOk ms 1 (M.map (·.2)) ∧ M.length ≤ 3 ∧ TableAt C H q ms 0 (M.map (·.2)) ∧
      ∀ (H' : Hp), Same H H' → D.nx σ H') := by
  obtain ⟨fK, dK, GK, bK, kK, gK⟩ := Cs.keeps.ex
  obtain ⟨fP, dP, GP, bP, kP, gP⟩ := Cs.keepsP.ex
  obtain ⟨fX, dX, GX, bX, kX, gX⟩ := Cs.ex.ex
  obtain ⟨fB, dB, GB, bB, kB, gB⟩ := Cs.broken.ex
  refine pstW (ps_if (pt_not (pt_val (pe_call GX (hr.mono (by decide)) rfl gX kX bX .nil pass0 (pa_cons (pe_lst (pa_cons (pe_call GK (hr.mono (by decide)) rfl gK kK bK .nil pass0 (pa_cons (pv 8) (pa_cons (pv 6) pa_nil))) (pa_cons (pe_call GP (hr.mono (by decide)) rfl gP kP bP .nil pass0 (pa_cons (pv 8) (pa_cons (pv 6) pa_nil))) pa_nil)))
      (pa_cons (pe_op op_rep (pe_lst (pa_cons (pe_cmpR op_isN1 (pe_call GB (hr.mono (by decide)) rfl gB kB bB .nil pass0 (pa_cons (pv 6) (pa_cons (pv 7) pa_nil))) pe_non (nomark _)) pa_nil)) pe_int) pa_nil))))) (pss_one (ps_ret pe_bl)) pss_nil) fun D σ H h => ?_
  obtain ⟨u0, u1, u2, u3, u4, u5, u9, u10, u11, u12, u13, u14, u15, u16, u17, dw, l, q, ms, m, g, M, rfl, ok, ⟨⟨dw', e, w1, w2⟩, wg, wj⟩, hl, rok, lM, hq, k⟩ := h
  cases e
  have l2 : 2 ≤ sizeLine := by decide
  have o2 : (2 : Nat) ≤ 1000 := by decide
  obtain ⟨b, eb⟩ : ∃ b : Bool, b = decide (ClosedG g (M.map (·.2))) := ⟨_, rfl⟩
  have hb : b = true ↔ ClosedG g (M.map (·.2)) := by rw [eb, decide_eq_true_iff]
  have e2 : (twosN (0 + 1)).all (clB g (M.map (·.2))) = b := by
    rw [Bool.eq_iff_iff, hb]
    exact one_place wg ok.2.2.1 rok hq.up
  refine ⟨_, rfl, _, rfl, q, dw, ms, 0, _, g, b, rfl, hq, ok, by decide, by rw [List.length_map]; omega, rok, ⟨m, w1, w2⟩, hb, fun H1 s1 => ?_⟩
  refine ⟨_, rfl, _, rfl, q, dw, ms, 0, _, g, m, rfl, hq.to s1, ok, by decide, by rw [List.length_map]; omega, rok, w1.to s1, wj, w2, fun H2 s2 => ?_⟩
  rw [e2]
  refine ⟨l2, fun q1 n1 => ?_⟩
  have sq1 := same_new (o := .lst [V.bl b, V.bl b]) n1
  have hq1 := upd_same (H := H2) (a := q1) (o := .lst [V.bl b, V.bl b])
  generalize upd H2 q1 (.lst [V.bl b, V.bl b]) = H3 at sq1 hq1 ⊢
  have s03 : Same H H3 := fun b o e => sq1 _ _ (s2 _ _ (s1 _ _ e))
  refine ⟨_, rfl, _, rfl, dw, l, ms, g, 1, M, rfl, (⟨m, s03 _ _ w1.1, w2⟩ : WayAt H3 dw ms g), hl.to s03, rok, by decide, broken_end fun u H4 eu s4 => ?_⟩
  have ed : decide (u = V.non) = b := by rw [eb, decide_eq_decide, eu]
  refine ⟨rfl, ?_⟩
  rw [ed]
  refine ⟨(by show 1 ≤ sizeLine; decide), fun q2 n2 => ?_⟩
  have sq2 := same_new (o := .lst [V.bl b]) n2
  have hq2 := upd_same (H := H4) (a := q2) (o := .lst [V.bl b])
  generalize upd H4 q2 (.lst [V.bl b]) = H5 at sq2 hq2 ⊢
  refine ⟨q2, 2, _, rfl, rfl, hq2, by decide, by decide, (show 1 * 2 ≤ sizeLine by decide), fun q3 n3 => ?_⟩
  generalize etl : (List.replicate (Int.toNat 2) [V.bl b]).flatten = tl
  obtain rfl : tl = [V.bl b, V.bl b] := by rw [← etl] <;> rfl
  clear etl
  have sq3 := same_new (o := .lst [V.bl b, V.bl b]) n3
  have hq3 := upd_same (H := H5) (a := q3) (o := .lst [V.bl b, V.bl b])
  generalize upd H5 q3 (.lst [V.bl b, V.bl b]) = H6 at sq3 hq3 ⊢
  have s36 : Same H3 H6 := fun b o e => sq3 _ _ (sq2 _ _ (s4 _ _ e))
  refine ⟨[], _, _, rfl, .inr (.inl ⟨q1, q3, _, _, rfl, rfl, by simp, by simp, s36 _ _ hq1, hq3, .cons (Ex.leaf rfl) (.cons (Ex.leaf rfl) .nil), o2⟩), fun H7 s7 => ⟨true, rfl, ?_⟩⟩
  refine iteF ?_
  exact k H7 fun b o e => s7 _ _ (s36 _ _ (s03 _ _ e))
end
end Yt

set_option Elab.async false
set_option linter.all false
set_option maxRecDepth 100000
set_option maxHeartbeats 4000000
namespace Yt
open PySem PySem.Spec PyProof.Rows L2
def spLaw (K : PySem.W.Frag) : Sp := fun vs H Q _ => ∃ (a : Addr) (ns : List Int), vs = [.ref a] ∧ SqL K H a (ns.map V.int) ∧ ns.length ≤ 63 ∧ ∀ H', Q (.bl true) H'
theorem ps_ex {α : Type} {X : Cx} {st : Stmt} {t : α → TS} (h : ∀ a, PS X st (t a)) : PS X st (fun D σ H => ∃ a, t a D σ H) := ⟨fun pins s σ H D I ⟨a, q⟩ => (h a).run pins s σ H D I q⟩
theorem strs_off {H : Hp} {p a : Addr} {f : Nat} {ms : List Str} (h : PurseAt H p f) (e : H a = some (.lst (ms.map V.str))) : a ≠ p := fun z => by
  obtain ⟨_, _, _, _, e2, _⟩ := h
  rw [z, e2] at e
  match ms, e with
  | [], e => cases e
  | _ :: _, e => cases e
theorem refs_off {H : Hp} {p a : Addr} {f : Nat} {M : List (Addr × List Str)} (h : PurseAt H p f) (e : H a = some (.lst (M.map fun e => V.ref e.1))) : a ≠ p := fun z => by
  obtain ⟨_, _, _, _, e2, _⟩ := h
  rw [z, e2] at e
  match M, e with
  | [], e => cases e
  | _ :: _, e => cases e
theorem TableAt.hid_ {C : Addr} {H : Hp} {p q : Addr} {f : Nat} {ms : List Str} {d : Nat} {rs : List (List Str)} (T : TableAt C H q ms d rs) (hP : PurseAt H p f) : TableAt C (hid p H) q ms d rs := by
  obtain ⟨dx, A, R, M, h1, h2, h3, h4, h5, h6⟩ := T
  refine ⟨dx, A, R, M, hid_at (fun z => ?_) h1, hid_at (strs_off hP h2) h2, hid_at (refs_off hP h3) h3, ⟨fun e he => hid_at (tup_off hP (h4.at_ e he)) (h4.at_ e he), h4.len, h4.few⟩, h5, h6⟩
  obtain ⟨_, _, _, _, e2, _⟩ := hP
  rw [z, e2] at h1
  cases h1
theorem RowsAt.hid_ {H : Hp} {p l : Addr} {f : Nat} {M : List (Addr × List Str)} (h : RowsAt H l M) (hP : PurseAt H p f) : RowsAt (hid p H) l M := ⟨hid_at (refs_off hP h.1) h.1, fun e he => hid_at (tup_off hP (h.2 e he)) (h.2 e he)⟩
/-- the things that a statement of the law speaks of -/
structure LP where
  p : Addr
  A : Addr
  W : Addr
  pt : Addr
  L : Addr
  ms : List Str
  d : Nat
  M : List (Addr × List Str)
  v1 : V
  v2 : V
  v3 : V
  fu : Nat
section
variable {P : Program} {w : World} {K : PySem.W.Frag} {mg : Str → Option Value} {base : Heap} {f : Addr} {fd : FuncData} {C : Addr}
theorem ok_law (F : FnP K "law" sLaw f fd) (Cs : CalL P w K mg base C) (T : Nm mg) (T6 : Nm6 mg) : FnOk P w K mg base CX0 10 f fd ["_law_script"] (spLaw K) := by
  obtain ⟨fP, dP, GP, bP, kP, gP⟩ := Cs.purses.ex
  obtain ⟨fD, dD, GD, bD, kD, gD⟩ := Cs.draw.ex
  obtain ⟨fM, dM, GM, bM, kM, gM⟩ := Cs.marks.ex
  obtain ⟨fR, dR, GR, bR, kR', gR⟩ := Cs.drawn.ex
  obtain ⟨fJ, dJ, GJ, bJ, kJ, gJ⟩ := Cs.maj.ex
  obtain ⟨fI, dI, GI, bI, mk⟩ := Cs.tm.ini
  have TT := Cs.tm.tc
  refine F.ok scLaw (fun vs H Q E h => ?_) (fun cdv A0 outer s H vs Q E hr h => ?_)
  · obtain ⟨a, ns, rfl, _⟩ := h
    rfl
  · obtain ⟨a, ns, rfl, hS, hl, k⟩ := h
    refine ⟨_, PSs.nox (pss_cons (ps_for PassesOwn.never rfl (pi_list (pe_call GP (hr.mono (by decide)) rfl gP kP bP .nil pass0 (pa_cons (pv 0) (pa_cons pe_int pa_nil)))) (pg_name (i := 1) scLaw.nd rfl (Or.inr rfl))
      (pss_cons (ps_set (i := 2) scLaw.nd rfl (Or.inr rfl) (pe_call GM (hr.mono (by decide)) rfl gM kM bM .nil pass0 (pa_cons (pv 1) (pa_cons (pe_op op_add pe_int (pe_call GD (hr.mono (by decide)) rfl gD kD bD .nil pass0 (pa_cons (pv 1) (pa_cons pe_int pa_nil)))) pa_nil))))
      (pss_cons (ps_ex fun x : LP => st_l1 (p := x.p) (A := x.A) (ms := x.ms) (fu := x.fu) Cs T T6 hr)
      (pss_cons (ps_ex fun x : LP => st_l2 (p := x.p) (A := x.A) (ms := x.ms) (fu := x.fu) Cs T T6 hr)
      (pss_cons (ps_set (i := 5) scLaw.nd rfl (Or.inl rfl) (pe_call GM (hr.mono (by decide)) rfl gM kM bM .nil pass0 (pa_cons (pv 1) (pa_cons pe_int pa_nil))))
      (pss_cons (ps_par (i := 6) (j := 7) (by rfl) scLaw.nd rfl rfl (by decide) rfl rfl (pa_cons (pe_call GJ (hr.mono (by decide)) rfl gJ kJ bJ .nil pass0 (pa_cons (pv 1) (pa_cons (pv 5) pa_nil))) (pa_cons (pe_call GR (hr.mono (by decide)) rfl gR kR' bR .nil pass0 (pa_cons (pv 1) (pa_cons (pv 5) (pa_cons pe_int (pa_cons pe_int pa_nil))))) pa_nil)) (by rfl))
      (pss_cons (ps_set (i := 8) scLaw.nd rfl (Or.inl rfl) (pe_make mk GI (hr.mono (by decide)) rfl TT.mgC bI .nil pass0 (pa_cons (pv 5) (pa_cons pe_int (pa_cons (pv 7) pa_nil)))))
      (pss_cons (st_l6 Cs T T6 hr)
      (pss_one (ps_for PassesOwn.never rfl (pi_tup (pe_tup (pa_cons pe_int (pa_cons pe_int (pa_cons pe_int pa_nil))))) (pg_name (i := 9) scLaw.nd rfl (Or.inl rfl))
        (pss_cons (ps_set (i := 10) scLaw.nd rfl (Or.inr rfl) (pe_call GR (hr.mono (by decide)) rfl gR kR' bR .nil pass0 (pa_cons (pv 1) (pa_cons (pv 2) (pa_cons (pv 9) (pa_cons pe_int pa_nil))))))
        (pss_cons (ps_set (i := 11) scLaw.nd rfl (Or.inr rfl) (pe_make mk GI (hr.mono (by decide)) rfl TT.mgC bI .nil pass0 (pa_cons (pv 2) (pa_cons (pv 9) (pa_cons (pv 10) pa_nil)))))
        (pss_cons (ps_ex fun x : LP => st_w2 (p := x.p) (A := x.A) (W := x.W) (pt := x.pt) (L := x.L) (ms := x.ms) (d := x.d) (M := x.M) (v1 := x.v1) (v2 := x.v2) (v3 := x.v3) (fu := x.fu) Cs T T6 hr)
        (pss_cons (ps_ex fun x : LP => st_w3 (A := x.A) (pt := x.pt) (L := x.L) (ms := x.ms) (d := x.d) (M := x.M) Cs T T6 hr)
        (pss_one (ps_ex fun x : LP => st_w4 (A := x.A) (W := x.W) (pt := x.pt) (L := x.L) (ms := x.ms) (d := x.d) (M := x.M) (v1 := x.v1) (v2 := x.v2) (v3 := x.v3) Cs T T6 hr)))))))))))))))
      )
      (pss_one (ps_ret pe_bl))), ?_⟩
    refine ⟨_, rfl, a, ns, 1, rfl, hS, hl, ⟨by decide, by decide⟩, fun L ps H1 hne hlen hL1n hL1 hps hnd s1 => ?_⟩
    obtain ⟨p, rfl⟩ : ∃ p, ps = [p] := by
      match ps, hne, hlen with
      | [p], _, _ => exact ⟨p, rfl⟩
      | p :: q :: r, _, h => simp only [List.length_cons] at h; omega
    obtain ⟨hP1, _, hpL⟩ := hps p (List.mem_singleton.mpr rfl)
    refine ⟨L, rfl, ⟨_, SqL.of hL1⟩, for_list (K := K) (a := L) (xs := [V.ref p]) (fun i σ H2 => (∃ u1 u2 u3 u4 u5 u6 u7 u8 u9 u10 u11 u12 u13 u14 u15 u16 u17 : Option V, σ = [some (.ref a), u1, u2, u3, u4, u5, u6, u7, u8, u9, u10, u11, u12, u13, u14, u15, u16, u17]) ∧ (i = 0 → H2 = H1) ∧ H2 L = some (.lst [.ref p]))
      ⟨⟨_, _, _, _, _, _, _, _, _, _, _, _, _, _, _, _, _, rfl⟩, fun _ => rfl, hL1⟩ (fun i σ H2 _ ⟨_, _, h⟩ => SqL.of h) ?_ ?_⟩
    · rintro i u0 σ Hb hi ⟨⟨u1, u2, u3, u4, u5, u6, u7, u8, u9, u10, u11, u12, u13, u14, u15, u16, u17, rfl⟩, h0, hLk⟩
      obtain rfl : i = 0 := by
        have := (List.getElem?_eq_some_iff.mp hi).1
        simp only [List.length_singleton] at this
        omega
      obtain rfl := h0 rfl
      obtain rfl : V.ref p = u0 := Option.some.inj hi
      refine ⟨_, rfl, _, rfl, p, 1000, _, rfl, hP1.less (show 1001 ≤ FUEL by decide), ⟨by decide, by decide⟩, fun r H2 r0 r1 hP2 hB2 => ?_⟩
      have r2 : r < 2 := r1
      refine ⟨_, _, rfl, rfl, p, 900, 2 + r, rfl, by omega, by omega, hP2.less (by omega), fun A ms H3 lm asc words nA hA hP3 hB3 => ?_⟩
      have ok : MarksOk ms := ⟨by omega, by omega, asc, words⟩
      have few : ms.length ≤ 3 := by omega
      have nAp := hP2.ne nA
      have hAh := hid_at nAp hA
      -- the drawn way
      refine ⟨⟨p, A, A, A, A, ms, 0, [], .non, .non, .non, 800⟩, _, _, _, _, _, _, _, _, _, _, _, _, _, _, _, _, rfl, hP3.less (show 800 + 27 ≤ 900 by decide), hAh, ok, few, fun w3 H4 hw3 hP4 hB4 => ?_⟩
      -- the ways
      refine ⟨⟨p, A, A, A, A, ms, 0, [], .non, .non, .non, 660⟩, _, _, _, _, _, _, _, _, _, _, _, _, _, _, _, w3, rfl, hP4.less (show 660 + 130 ≤ 800 by decide), (But.hid hB4) _ _ hAh, ok, few, hw3, fun W v1 v2 v3 H5 hLS hP5 hB5 => ?_⟩
      -- four marks
      refine ⟨_, rfl, p, 600, 4, rfl, by decide, by decide, hP5.less (show 600 + 12 + 11 * Int.toNat 4 ≤ 660 by decide), fun F4 fs H6 lf ascf wordsf nF hF hP6 hB6 => ?_⟩
      have okf : MarksOk fs := ⟨by omega, by omega, ascf, wordsf⟩
      have nFp := hP5.ne nF
      refine ⟨_, rfl, _, rfl, p, F4, fs, 470, rfl, nFp, hF, okf, hP6.less (by decide), fun Lo mo H7 nLo hLo hko hvo hP7 hB7 => ?_⟩
      have nLop := hP6.ne nLo
      have hF7 := hB7 _ _ nFp hF
      refine ⟨_, rfl, _, rfl, p, F4, 450, 0, 3, fs, rfl, by decide, hP7.less (by decide), hF7, nFp, by omega, by omega, by decide, fun Ls Ms H8 nLs hLs RNs upS lS orS nrS hP8 hB8 => ?_⟩
      refine ⟨_, _, rfl, ?_⟩
      have hF8 := hB8 _ _ nFp hF7
      have hLo8 := hB8 _ _ nLop hLo
      refine ⟨_, rfl, _, rfl, ?_⟩
      refine make_tableA (C := C) (d := 0) hF8 okf (by decide) hLs RNs orS fun pf H9 rs9 npf mr9 T9 s9 => ?_
      obtain rfl : rs9 = Ms.map (·.2) := up_same T9.up upS mr9
      have rowsS : RowsOk fs 1 (Ms.map (·.2)) := fun r hr => by
        obtain ⟨e, he, rfl⟩ := List.mem_map.mp hr
        exact ⟨RNs.len e he, orS e he⟩
      obtain ⟨go, hgo⟩ := maj8_of okf.2.2.1.nodup (s9 _ _ hLo8) hko hvo
      refine ⟨_, _, _, _, _, _, _, _, _, _, _, _, _, _, _, Lo, Ls, pf, fs, mo, go, Ms, rfl, okf, hgo, ⟨s9 _ _ hLs, fun e he => s9 _ _ (RNs.at_ e he)⟩, rowsS, lS, T9, fun H10 s10 => ?_⟩
      have s810 : Same H8 H10 := fun b o e => s10 _ _ (s9 _ _ e)
      have hP10 : PurseAt H10 p 450 := hP8.to fun o z => s810 _ _ z
      have b510 : But p H5 H10 := hB6.trans (hB7.trans (hB8.trans (Same.but s810)))
      have b110 : But p Hb H10 := hB2.trans (hB3.trans (hB4.trans (hB5.trans b510)))
      have hLS10 := hLS.to (But.hid b510)
      -- for width in (1, 2, 3)
      refine ⟨(by show 3 ≤ sizeLine; decide), fun tt nt => ?_⟩
      have st := same_new (o := .tup [V.int 1, V.int 2, V.int 3]) nt
      have ht := upd_same (H := H10) (a := tt) (o := .tup [V.int 1, V.int 2, V.int 3])
      have ntp := hP10.ne nt
      have hP11 : PurseAt (upd H10 tt (.tup [V.int 1, V.int 2, V.int 3])) p 450 := hP10.to fun o z => st _ _ z
      generalize upd H10 tt (.tup [V.int 1, V.int 2, V.int 3]) = H11 at st ht hP11 ⊢
      have hLS11 := hLS10.to (Same.hid st)
      refine ⟨tt, rfl, ⟨_, SqT.of ht⟩, for_tup (K := K) (a := tt) (xs := [V.int 1, V.int 2, V.int 3]) (fun j σ Hc => (∃ u9 u10 u11 u12 u13 u14 : Option V, σ = [some (.ref a), some (.ref p), some (.ref A), some (.ref w3), some (.ref W), some (.ref F4), some (.ref Lo), some (.ref Ls), some (.ref pf), u9, u10, u11, u12, u13, u14, u15, u16, u17]) ∧ PurseAt Hc p (100 * (4 - j)) ∧ But p H11 Hc)
        ⟨⟨_, _, _, _, _, _, rfl⟩, hP11.less (by decide), But.refl p H11⟩ (fun j σ Hc _ ⟨_, _, z⟩ => SqT.of (z _ _ ntp ht)) ?_ ?_⟩
      · rintro j u σ Hc hj ⟨⟨x9, x10, x11, x12, x13, x14, rfl⟩, hPc, hBc⟩
        obtain ⟨d, rfl, d2⟩ : ∃ d : Nat, u = V.int ((d + 1 : Nat) : Int) ∧ d ≤ 2 := by
          match j, hj with
          | 0, hj => cases hj; exact ⟨0, rfl, by decide⟩
          | 1, hj => cases hj; exact ⟨1, rfl, by decide⟩
          | 2, hj => cases hj; exact ⟨2, rfl, by decide⟩
        have j3 : j < 3 := (List.getElem?_eq_some_iff.mp hj).1
        obtain ⟨fv, ef⟩ : ∃ fv, fv = 100 * (4 - (j + 1)) := ⟨_, rfl⟩
        have hPc : PurseAt Hc p (fv + 100) := hPc.less (by omega)
        rw [← ef]
        have hLc := hLS11.to (But.hid hBc)
        have hAc := hid_same p Hc _ _ hLc.a
        refine ⟨_, rfl, _, rfl, _, rfl, p, A, fv + 80, d, 3, ms, rfl, by decide, hPc.less (by omega), hAc, nAp, by omega, by omega, by omega, fun L1 M1 K1 nL1 hL1' R1 up1 f1 or1 np1 hPd hBd => ?_⟩
        have hAd := hBd _ _ nAp hAc
        refine ⟨_, rfl, _, rfl, _, rfl, ?_⟩
        refine make_tableA (C := C) hAd ok (by omega) hL1' R1 or1 fun p1 K2 rs np1' mr T1 u2 => ?_
        obtain rfl : rs = M1.map (·.2) := up_same T1.up up1 mr
        have hPe : PurseAt K2 p (fv + 80) := hPd.to fun o z => u2 _ _ z
        have hLe := hLc.to (But.hid (hBd.trans (Same.but u2)))
        have rok1 : RowsOk ms (d + 1) (M1.map (·.2)) := fun r hr => by
          obtain ⟨e, he, rfl⟩ := List.mem_map.mp hr
          exact ⟨R1.len e he, or1 e he⟩
        have hl1 : RowsAt K2 L1 M1 := ⟨u2 _ _ hL1', fun e he => u2 _ _ (R1.at_ e he)⟩
        have hT1 : TS8 C (hid p K2) p1 L1 ms d M1 := ⟨d2, T1.hid_ hPe, hl1.hid_ hPe, rok1, f1⟩
        refine ⟨⟨p, A, W, p1, L1, ms, d, M1, v1, v2, v3, fv + 20⟩, _, _, _, _, _, _, _, _, _, _, _, _, rfl, hPe.less (show fv + 20 + 48 ≤ fv + 80 by omega), hLe, hT1, fun y12 K3 hPf hBf => ?_⟩
        have hT3 := hT1.to (But.hid hBf)
        have hL3 := hLe.to (But.hid hBf)
        refine ⟨⟨p, A, W, p1, L1, ms, d, M1, v1, v2, v3, 0⟩, _, _, _, _, _, _, _, _, _, _, _, _, _, _, _, _, rfl, hid_same p K3 _ _ hL3.a, ok, hT3.to (hid_same p K3), fun K4 u4 => ?_⟩
        have hT4 := (hT3.to (Same.hid u4)).to (hid_same p K4)
        have hL4 := (hL3.to (Same.hid u4)).to (hid_same p K4)
        refine ⟨⟨p, A, W, p1, L1, ms, d, M1, v1, v2, v3, 0⟩, _, _, _, _, _, _, _, _, _, _, _, _, _, rfl, hL4, hT4, fun z12 z13 z14 K5 u5 => ?_⟩
        have u35 : Same K3 K5 := fun b o e => u5 _ _ (u4 _ _ e)
        exact ⟨⟨_, _, _, _, _, _, rfl⟩, (hPf.to fun o z => u35 _ _ z).less (show fv ≤ fv + 20 by omega), hBc.trans (hBd.trans ((Same.but u2).trans (hBf.trans (Same.but u35))))⟩
      · rintro σ Hc ⟨⟨x9, x10, x11, x12, x13, x14, rfl⟩, hPc, hBc⟩
        exact ⟨⟨_, _, _, _, _, _, _, _, _, _, _, _, _, _, _, _, _, rfl⟩, (fun h => by omega), hBc _ _ hpL.symm (st _ _ (b110 _ _ hpL.symm hLk))⟩
    · rintro σ Hc ⟨⟨u1, u2, u3, u4, u5, u6, u7, u8, u9, u10, u11, u12, u13, u14, u15, u16, u17, rfl⟩, _, _⟩
      exact k _
end
end Yt

set_option Elab.async false
set_option linter.all false
set_option maxRecDepth 100000
set_option maxHeartbeats 2000000
namespace Yt
open PySem PySem.Spec PyProof.Rows L2
/-! ### the head: what is asked of the written part -/
abbrev defs0 : List (Str × Nat) := [("is_count", 10), ("is_word", 11), ("are_marks", 12), ("check_marks", 13), ("is_row", 17), ("check_width", 18), ("check_table", 19), ("twos_of", 20), ("chosen", 21), ("_are_spots", 22), ("threes_of", 24), ("mark_twice_in", 25), ("is_way_over", 26), ("is_majority_over", 27), ("check_way", 28), ("picker", 29), ("keeps", 30), ("why_broken", 31), ("is_why_broken", 32), ("_gift", 33)]
abbrev defs1 : List (Str × Nat) := [("closed_by", 34), ("_gifts_with_last", 35), ("keeps_by_pairs", 36), ("_law_purse", 38), ("_law_mixed", 39), ("_law_draw", 40), ("_law_purses", 41), ("_law_one_of", 42), ("_law_shuffled", 43), ("_law_same", 44), ("_law_exact", 45), ("_law_word", 46), ("_law_words", 47), ("_law_marks", 48), ("_law_threes", 49), ("_law_majority", 50), ("_law_middle", 51), ("_law_given", 52), ("_law_row", 53), ("_law_drawn_rows", 54)]
abbrev defs2 : List (Str × Nat) := [("_law_every", 55), ("_law_told_table", 56), ("_law_is_table", 57), ("_law_twos_of", 58), ("_law_pair_rows", 59), ("_law_by_pairs", 60), ("_law_broken", 61), ("_law_is_three_rows", 62), ("_law_plain_closed", 63), ("_law_kept_right", 64), ("law", 65)]
abbrev defNames : List (Str × Nat) := defs0 ++ (defs1 ++ (defs2))
def dF (p : Str × Nat) : He.DefD := ⟨(p.1, none), p.1, p.1, defArgs (top p.2), defBody (top p.2), defScope (top p.2), [], []⟩
def dM (p : Str × Stmt) : He.DefD := ⟨("Table", some p.1), p.1, ("Table." : Str) ++ p.1, defArgs p.2, defBody p.2, defScope p.2, [], []⟩
abbrev methNames : List (Str × Stmt) := [("__init__", sTInit), ("marks", sTMarks), ("width", sTWidth), ("rows", sTRows), ("__eq__", sTEq)]
def fnY : List He.DefD := defNames.map dF ++ methNames.map dM
abbrev freeNames : List Str := ["int", "sum", "max", "min", "range", "len", "isinstance", "list", "tuple", "dict", "bool", "zip", "all", "str", "sorted", "set"]
abbrev tblFacts : List He.Fa := [.int "GREATEST_WIDTH" 4, .glo "Table", .cls "Table", .noat "Table" "_marks", .noat "Table" "_width", .noat "Table" "_rows", .meth "Table" "marks", .meth "Table" "width", .meth "Table" "rows", .meth "Table" "__eq__", .mkr "Table"]
def faY : List He.Fa := defNames.map (fun p => .glo p.1) ++ (freeNames.map (fun x => .free x) ++ tblFacts)
def moreB (K : PySem.W.Frag) : Bool :=
  decide (PySem.W.kitOne K (.ref (He.ga K "Table")) (.ref (He.ga K "Table")) = some true) &&
  (He.eqO (PySem.W.findIn K (.ref (He.ga K "Table")) "__class__") (some (some (.builtin "object.__class__"))) &&
  (He.eqO (PySem.W.specialIn K (.builtin "object.__class__") "__get__") (some (some (.builtin "getset_descriptor.__get__"))) &&
  (decide (PySem.W.takesIn K (.builtin "object.__class__") = some true) &&
  decide (PySem.W.mroIn K (He.ga K "Table") (.type "object") = some true))))
def obY (g : Addr → Option Obj) : He.AlD × Bool := (He.obsD faY fnY (He.frG g (He.asD g 4)), moreB (He.frG g (He.asD g 4)))
def hkY : PySem.W.Hook where
  α := He.AlD × Bool
  obs := fun s => obY s.heap.get?
  val := fun _ => (He.valD fnY, true)
  says := fun _ h => ∃ K : PySem.W.Frag, K.In h ∧ He.SaysD faY fnY K ∧ moreB K = true
  of := fun _ s e => ⟨_, He.frG_in, congrArg Prod.fst e, congrArg Prod.snd e⟩
  keeps := fun _ _ _ ⟨K, a, b⟩ k => ⟨K, fun x o e => k _ _ (a x o e), b⟩
def obT (s : PySem.W.SharedT) : He.AlD × Bool := obY (HandSHeadRun.getT s)
theorem obT_eq (s : PySem.W.SharedT) : obT s = hkY.obs s.abs := by
  show obY _ = obY _
  rw [funext (HandSHeadRun.getT_eq s)]
abbrev R : PySem.W.OpenRow := PySem.W.OpenLaw.row PySem.Challenge.rw_pairtells_k08_whole_tables_kept_and_clos
abbrev loose0 : List Str := ["PairError", "InvalidMarks", "InvalidWidth", "InvalidRows", "InvalidTable", "InvalidSpots", "InvalidWay", "InvalidNumber", "Table", "GREATEST_WIDTH"]
abbrev looseY : List Str := loose0 ++ (defNames.take 50).map Prod.fst
end Yt

set_option Elab.async false
set_option linter.all false
set_option maxRecDepth 100000
set_option maxHeartbeats 0
namespace Yt
open PySem PySem.Spec PyProof.Rows L2
theorem run (w : World) : HandSHeadRun.RunEq R (PySem.W.view R.prog [65]) hkY obT 10000 looseY w := by
  intro os
  kernel_rfl
end Yt

set_option Elab.async false
set_option linter.all false
set_option maxRecDepth 100000
set_option maxHeartbeats 0
namespace Yt
open PySem PySem.Spec PyProof.Rows L2
/-! ### what the head's words say -/
theorem fact_mem {fa : List He.Fa} {fn : List He.DefD} {K : PySem.W.Frag} (c : He.SaysD fa fn K) {f : He.Fa} (h : f ∈ fa) : He.Fa.ok K f = true := by
  obtain ⟨i, e⟩ := List.mem_iff_getElem?.mp h
  exact c.fact i e
theorem def_mem {fa : List He.Fa} {fn : List He.DefD} {K : PySem.W.Frag} (c : He.SaysD fa fn K) {d : He.DefD} (h : d ∈ fn) : ∃ fd, FunD K d.name d.qual d.params d.body d.scope (He.DefD.dvs K d) (He.DefD.kws K d) (He.fAd K d.at_) fd := by
  obtain ⟨i, e⟩ := List.mem_iff_getElem?.mp h
  exact c.def_ i e
section
variable {K : PySem.W.Frag} {h : Heap} {mg : Str → Option Value}
theorem def_law (c : He.SaysD faY fnY K) {p : Str × Nat} (m : p ∈ defNames) : ∃ fd, FnP K p.1 (top p.2) (He.ga K p.1) fd :=
  def_mem c (d := dF p) (List.mem_append_left _ (List.mem_map_of_mem m))
theorem def_meth (c : He.SaysD faY fnY K) (i : Nat) {p : Str × Stmt} (m : methNames[i]? = some p) : ∃ fd, MethP K p.1 p.2 (He.ma K (He.ga K "Table") p.1) fd :=
  def_mem c (d := dM p) (List.mem_append_right _ (List.mem_map_of_mem (List.mem_of_getElem? m)))
theorem glo_def (X : K.In h) (G : h.Ns mainGlobals mg) (c : He.SaysD faY fnY K) {p : Str × Nat} (m : p ∈ defNames) : mg p.1 = some (.ref (He.ga K p.1)) :=
  He.glo_ok X G (fact_mem c (f := .glo p.1) (List.mem_append_left _ (List.mem_map_of_mem (f := fun p : Str × Nat => He.Fa.glo p.1) m)))
theorem free_y (X : K.In h) (G : h.Ns mainGlobals mg) (c : He.SaysD faY fnY K) {x : Str} (m : x ∈ freeNames) : mg x = none :=
  He.free_ok X G (fact_mem c (f := .free x) (List.mem_append_right _ (List.mem_append_left _ (List.mem_map_of_mem (f := fun x => He.Fa.free x) m))))
theorem tbl_y (c : He.SaysD faY fnY K) {f : He.Fa} (i : Nat) (m : tblFacts[i]? = some f) : He.Fa.ok K f = true := fact_mem c (List.mem_append_right _ (List.mem_append_right _ (List.mem_of_getElem? m)))
theorem tc_y (X : K.In h) (G : h.Ns mainGlobals mg) (c : He.SaysD faY fnY K) (hm : moreB K = true) : TC K mg (He.ga K "Table") := by
  unfold moreB at hm
  simp only [Bool.and_eq_true, decide_eq_true_eq] at hm
  obtain ⟨h1, h2, h3, h4, h5⟩ := hm
  exact ⟨He.cls_ok (tbl_y c 2 rfl), He.noat_ok (tbl_y c 3 rfl), He.noat_ok (tbl_y c 4 rfl), He.noat_ok (tbl_y c 5 rfl), He.glo_ok X G (tbl_y c 1 rfl), h1, He.eqO_ok h2, He.eqO_ok h3, h4, h5⟩
end
theorem facts {P : Program} {w : World} {K : PySem.W.Frag} {h : Heap} {mg : Str → Option Value} {f : Addr} (X : K.In h) (G : h.Ns mainGlobals mg) (hfa : mg ("law" : Str) = some (.ref f)) (c : He.SaysD faY fnY K) (hm : moreB K = true) :
    ∃ fd : FuncData, (∀ (s : Shared) (v : Value), BindsTo s fd ⟨[v], []⟩ [("_law_script", v)]) ∧ ∀ base : Heap, K.In base → base.Ns mainGlobals mg → FnOk P w K mg base CX0 10 f fd ["_law_script"] (spLaw K) := by
  have fr : ∀ {x : Str}, x ∈ freeNames → mg x = none := fun m => free_y X G c m
  have gd : ∀ {p : Str × Nat}, p ∈ defNames → mg p.1 = some (.ref (He.ga K p.1)) := fun m => glo_def X G c m
  have N1 : Nm mg := ⟨fr (by decide), fr (by decide), fr (by decide), fr (by decide), fr (by decide), fr (by decide)⟩
  have N6 : Nm6 mg := ⟨fr (by decide), fr (by decide), fr (by decide), fr (by decide), fr (by decide), fr (by decide), fr (by decide)⟩
  have N7 : Nm7 mg := ⟨fr (by decide)⟩
  have hso : mg "sorted" = none := fr (by decide)
  have hst : mg "set" = none := fr (by decide)
  have TT := tc_y X G c hm
  obtain ⟨tW, gW⟩ := He.int_ok X G (x := "GREATEST_WIDTH") (i := 4) (tbl_y c 0 rfl)
  obtain ⟨d_m0, F_m0⟩ := def_meth c 0 rfl
  obtain ⟨d_m1, F_m1⟩ := def_meth c 1 rfl
  obtain ⟨d_m2, F_m2⟩ := def_meth c 2 rfl
  obtain ⟨d_m3, F_m3⟩ := def_meth c 3 rfl
  obtain ⟨d_m4, F_m4⟩ := def_meth c 4 rfl
  obtain ⟨d_is_count, F_is_count⟩ := def_law c (p := ("is_count", 10)) (by decide)
  obtain ⟨d_is_word, F_is_word⟩ := def_law c (p := ("is_word", 11)) (by decide)
  obtain ⟨d_are_marks, F_are_marks⟩ := def_law c (p := ("are_marks", 12)) (by decide)
  obtain ⟨d_check_marks, F_check_marks⟩ := def_law c (p := ("check_marks", 13)) (by decide)
  obtain ⟨d_is_row, F_is_row⟩ := def_law c (p := ("is_row", 17)) (by decide)
  obtain ⟨d_check_width, F_check_width⟩ := def_law c (p := ("check_width", 18)) (by decide)
  obtain ⟨d_check_table, F_check_table⟩ := def_law c (p := ("check_table", 19)) (by decide)
  obtain ⟨d_twos_of, F_twos_of⟩ := def_law c (p := ("twos_of", 20)) (by decide)
  obtain ⟨d_chosen, F_chosen⟩ := def_law c (p := ("chosen", 21)) (by decide)
  obtain ⟨d__are_spots, F__are_spots⟩ := def_law c (p := ("_are_spots", 22)) (by decide)
  obtain ⟨d_threes_of, F_threes_of⟩ := def_law c (p := ("threes_of", 24)) (by decide)
  obtain ⟨d_mark_twice_in, F_mark_twice_in⟩ := def_law c (p := ("mark_twice_in", 25)) (by decide)
  obtain ⟨d_is_way_over, F_is_way_over⟩ := def_law c (p := ("is_way_over", 26)) (by decide)
  obtain ⟨d_is_majority_over, F_is_majority_over⟩ := def_law c (p := ("is_majority_over", 27)) (by decide)
  obtain ⟨d_check_way, F_check_way⟩ := def_law c (p := ("check_way", 28)) (by decide)
  obtain ⟨d_picker, F_picker⟩ := def_law c (p := ("picker", 29)) (by decide)
  obtain ⟨d_keeps, F_keeps⟩ := def_law c (p := ("keeps", 30)) (by decide)
  obtain ⟨d_why_broken, F_why_broken⟩ := def_law c (p := ("why_broken", 31)) (by decide)
  obtain ⟨d_is_why_broken, F_is_why_broken⟩ := def_law c (p := ("is_why_broken", 32)) (by decide)
  obtain ⟨d__gift, F__gift⟩ := def_law c (p := ("_gift", 33)) (by decide)
  obtain ⟨d_closed_by, F_closed_by⟩ := def_law c (p := ("closed_by", 34)) (by decide)
  obtain ⟨d__gifts_with_last, F__gifts_with_last⟩ := def_law c (p := ("_gifts_with_last", 35)) (by decide)
  obtain ⟨d_keeps_by_pairs, F_keeps_by_pairs⟩ := def_law c (p := ("keeps_by_pairs", 36)) (by decide)
  obtain ⟨d__law_purse, F__law_purse⟩ := def_law c (p := ("_law_purse", 38)) (by decide)
  obtain ⟨d__law_mixed, F__law_mixed⟩ := def_law c (p := ("_law_mixed", 39)) (by decide)
  obtain ⟨d__law_draw, F__law_draw⟩ := def_law c (p := ("_law_draw", 40)) (by decide)
  obtain ⟨d__law_purses, F__law_purses⟩ := def_law c (p := ("_law_purses", 41)) (by decide)
  obtain ⟨d__law_one_of, F__law_one_of⟩ := def_law c (p := ("_law_one_of", 42)) (by decide)
  obtain ⟨d__law_shuffled, F__law_shuffled⟩ := def_law c (p := ("_law_shuffled", 43)) (by decide)
  obtain ⟨d__law_same, F__law_same⟩ := def_law c (p := ("_law_same", 44)) (by decide)
  obtain ⟨d__law_exact, F__law_exact⟩ := def_law c (p := ("_law_exact", 45)) (by decide)
  obtain ⟨d__law_word, F__law_word⟩ := def_law c (p := ("_law_word", 46)) (by decide)
  obtain ⟨d__law_words, F__law_words⟩ := def_law c (p := ("_law_words", 47)) (by decide)
  obtain ⟨d__law_marks, F__law_marks⟩ := def_law c (p := ("_law_marks", 48)) (by decide)
  obtain ⟨d__law_threes, F__law_threes⟩ := def_law c (p := ("_law_threes", 49)) (by decide)
  obtain ⟨d__law_majority, F__law_majority⟩ := def_law c (p := ("_law_majority", 50)) (by decide)
  obtain ⟨d__law_middle, F__law_middle⟩ := def_law c (p := ("_law_middle", 51)) (by decide)
  obtain ⟨d__law_given, F__law_given⟩ := def_law c (p := ("_law_given", 52)) (by decide)
  obtain ⟨d__law_row, F__law_row⟩ := def_law c (p := ("_law_row", 53)) (by decide)
  obtain ⟨d__law_drawn_rows, F__law_drawn_rows⟩ := def_law c (p := ("_law_drawn_rows", 54)) (by decide)
  obtain ⟨d__law_every, F__law_every⟩ := def_law c (p := ("_law_every", 55)) (by decide)
  obtain ⟨d__law_told_table, F__law_told_table⟩ := def_law c (p := ("_law_told_table", 56)) (by decide)
  obtain ⟨d__law_is_table, F__law_is_table⟩ := def_law c (p := ("_law_is_table", 57)) (by decide)
  obtain ⟨d__law_twos_of, F__law_twos_of⟩ := def_law c (p := ("_law_twos_of", 58)) (by decide)
  obtain ⟨d__law_pair_rows, F__law_pair_rows⟩ := def_law c (p := ("_law_pair_rows", 59)) (by decide)
  obtain ⟨d__law_by_pairs, F__law_by_pairs⟩ := def_law c (p := ("_law_by_pairs", 60)) (by decide)
  obtain ⟨d__law_broken, F__law_broken⟩ := def_law c (p := ("_law_broken", 61)) (by decide)
  obtain ⟨d__law_is_three_rows, F__law_is_three_rows⟩ := def_law c (p := ("_law_is_three_rows", 62)) (by decide)
  obtain ⟨d__law_plain_closed, F__law_plain_closed⟩ := def_law c (p := ("_law_plain_closed", 63)) (by decide)
  obtain ⟨d__law_kept_right, F__law_kept_right⟩ := def_law c (p := ("_law_kept_right", 64)) (by decide)
  obtain ⟨d_law, F_law⟩ := def_law c (p := ("law", 65)) (by decide)
  have e := hfa.symm.trans (gd (p := ("law", 65)) (by decide))
  cases e
  have b := FunD.bindsA (ps := ["_law_script"]) F_law fun _ _ _ _ _ _ us hl => match us, hl with | [_], _ => rfl
  refine ⟨d_law, fun s v => b s [v] rfl, fun base _ _ => ?_⟩
  have b_is_count : Binds K d_is_count ["value"] [] := F_is_count.bindsN fun _ _ _ _ _ _ us hl => match us, hl with | [_], _ => rfl
  have b_is_word : Binds K d_is_word ["value"] [] := F_is_word.bindsN fun _ _ _ _ _ _ us hl => match us, hl with | [_], _ => rfl
  have b_are_marks : Binds K d_are_marks ["value"] [] := F_are_marks.bindsN fun _ _ _ _ _ _ us hl => match us, hl with | [_], _ => rfl
  have b_check_marks : Binds K d_check_marks ["marks"] [] := F_check_marks.bindsN fun _ _ _ _ _ _ us hl => match us, hl with | [_], _ => rfl
  have b_is_row : Binds K d_is_row ["marks", "width", "value"] [] := F_is_row.bindsN fun _ _ _ _ _ _ us hl => match us, hl with | [_, _, _], _ => rfl
  have b_check_width : Binds K d_check_width ["width"] [] := F_check_width.bindsN fun _ _ _ _ _ _ us hl => match us, hl with | [_], _ => rfl
  have b_check_table : Binds K d_check_table ["table"] [] := F_check_table.bindsN fun _ _ _ _ _ _ us hl => match us, hl with | [_], _ => rfl
  have b_twos_of : Binds K d_twos_of ["width"] [] := F_twos_of.bindsN fun _ _ _ _ _ _ us hl => match us, hl with | [_], _ => rfl
  have b_chosen : Binds K d_chosen ["table", "spots"] [] := F_chosen.bindsN fun _ _ _ _ _ _ us hl => match us, hl with | [_, _], _ => rfl
  have b__are_spots : Binds K d__are_spots ["width", "value"] [] := F__are_spots.bindsN fun _ _ _ _ _ _ us hl => match us, hl with | [_, _], _ => rfl
  have b_threes_of : Binds K d_threes_of ["marks"] [] := F_threes_of.bindsN fun _ _ _ _ _ _ us hl => match us, hl with | [_], _ => rfl
  have b_mark_twice_in : Binds K d_mark_twice_in ["three"] [] := F_mark_twice_in.bindsN fun _ _ _ _ _ _ us hl => match us, hl with | [_], _ => rfl
  have b_is_way_over : Binds K d_is_way_over ["marks", "value"] [] := F_is_way_over.bindsN fun _ _ _ _ _ _ us hl => match us, hl with | [_, _], _ => rfl
  have b_is_majority_over : Binds K d_is_majority_over ["marks", "value"] [] := F_is_majority_over.bindsN fun _ _ _ _ _ _ us hl => match us, hl with | [_, _], _ => rfl
  have b_check_way : Binds K d_check_way ["table", "way"] [] := F_check_way.bindsN fun _ _ _ _ _ _ us hl => match us, hl with | [_, _], _ => rfl
  have b_picker : Binds K d_picker ["marks", "number"] [] := F_picker.bindsN fun _ _ _ _ _ _ us hl => match us, hl with | [_, _], _ => rfl
  have b_keeps : Binds K d_keeps ["table", "way"] [] := F_keeps.bindsN fun _ _ _ _ _ _ us hl => match us, hl with | [_, _], _ => rfl
  have b_why_broken : Binds K d_why_broken ["table", "way"] [] := F_why_broken.bindsN fun _ _ _ _ _ _ us hl => match us, hl with | [_, _], _ => rfl
  have b_is_why_broken : Binds K d_is_why_broken ["table", "way", "value"] [] := F_is_why_broken.bindsN fun _ _ _ _ _ _ us hl => match us, hl with | [_, _, _], _ => rfl
  have b__gift : Binds K d__gift ["way", "first", "second", "third"] [] := F__gift.bindsN fun _ _ _ _ _ _ us hl => match us, hl with | [_, _, _, _], _ => rfl
  have b_closed_by : Binds K d_closed_by ["table", "way"] [] := F_closed_by.bindsN fun _ _ _ _ _ _ us hl => match us, hl with | [_, _], _ => rfl
  have b__gifts_with_last : Binds K d__gifts_with_last ["way", "rows"] [] := F__gifts_with_last.bindsN fun _ _ _ _ _ _ us hl => match us, hl with | [_, _], _ => rfl
  have b_keeps_by_pairs : Binds K d_keeps_by_pairs ["table", "way"] [] := F_keeps_by_pairs.bindsN fun _ _ _ _ _ _ us hl => match us, hl with | [_, _], _ => rfl
  have b__law_purse : Binds K d__law_purse ["_law_script", "_law_at"] [] := F__law_purse.bindsN fun _ _ _ _ _ _ us hl => match us, hl with | [_, _], _ => rfl
  have b__law_mixed : Binds K d__law_mixed ["_law_seed", "_law_spin", "_law_at"] [] := F__law_mixed.bindsN fun _ _ _ _ _ _ us hl => match us, hl with | [_, _, _], _ => rfl
  have b__law_draw : Binds K d__law_draw ["_law_purse_here", "_law_many"] [] := F__law_draw.bindsN fun _ _ _ _ _ _ us hl => match us, hl with | [_, _], _ => rfl
  have b__law_purses : Binds K d__law_purses ["_law_script", "_law_few"] [] := F__law_purses.bindsN fun _ _ _ _ _ _ us hl => match us, hl with | [_, _], _ => rfl
  have b__law_one_of : Binds K d__law_one_of ["_law_purse_here", "_law_some"] [] := F__law_one_of.bindsN fun _ _ _ _ _ _ us hl => match us, hl with | [_, _], _ => rfl
  have b__law_shuffled : Binds K d__law_shuffled ["_law_purse_here", "_law_some"] [] := F__law_shuffled.bindsN fun _ _ _ _ _ _ us hl => match us, hl with | [_, _], _ => rfl
  have b__law_same : Binds K d__law_same ["_law_thing"] [] := F__law_same.bindsN fun _ _ _ _ _ _ us hl => match us, hl with | [_], _ => rfl
  have b__law_exact : Binds K d__law_exact ["_law_mine", "_law_theirs"] [] := F__law_exact.bindsN fun _ _ _ _ _ _ us hl => match us, hl with | [_, _], _ => rfl
  have b__law_word : Binds K d__law_word ["_law_purse_here"] [] := F__law_word.bindsN fun _ _ _ _ _ _ us hl => match us, hl with | [_], _ => rfl
  have b__law_words : Binds K d__law_words ["_law_purse_here", "_law_many"] [] := F__law_words.bindsN fun _ _ _ _ _ _ us hl => match us, hl with | [_, _], _ => rfl
  have b__law_marks : Binds K d__law_marks ["_law_purse_here", "_law_many"] [] := F__law_marks.bindsN fun _ _ _ _ _ _ us hl => match us, hl with | [_, _], _ => rfl
  have b__law_threes : Binds K d__law_threes ["_law_marks_here"] [] := F__law_threes.bindsN fun _ _ _ _ _ _ us hl => match us, hl with | [_], _ => rfl
  have b__law_majority : Binds K d__law_majority ["_law_purse_here", "_law_marks_here"] [] := F__law_majority.bindsN fun _ _ _ _ _ _ us hl => match us, hl with | [_, _], _ => rfl
  have b__law_middle : Binds K d__law_middle ["_law_order"] [] := F__law_middle.bindsN fun _ _ _ _ _ _ us hl => match us, hl with | [_], _ => rfl
  have b__law_given : Binds K d__law_given ["_law_way", "_law_rows"] [] := F__law_given.bindsN fun _ _ _ _ _ _ us hl => match us, hl with | [_, _], _ => rfl
  have b__law_row : Binds K d__law_row ["_law_purse_here", "_law_marks_here", "_law_width"] [] := F__law_row.bindsN fun _ _ _ _ _ _ us hl => match us, hl with | [_, _, _], _ => rfl
  have b__law_drawn_rows : Binds K d__law_drawn_rows ["_law_purse_here", "_law_marks_here", "_law_width", "_law_most"] [] := F__law_drawn_rows.bindsN fun _ _ _ _ _ _ us hl => match us, hl with | [_, _, _, _], _ => rfl
  have b__law_every : Binds K d__law_every ["_law_marks_here", "_law_width"] [] := F__law_every.bindsN fun _ _ _ _ _ _ us hl => match us, hl with | [_, _], _ => rfl
  have b__law_told_table : Binds K d__law_told_table ["_law_table"] [] := F__law_told_table.bindsN fun _ _ _ _ _ _ us hl => match us, hl with | [_], _ => rfl
  have b__law_is_table : Binds K d__law_is_table ["_law_table", "_law_marks_here", "_law_width", "_law_rows"] [] := F__law_is_table.bindsN fun _ _ _ _ _ _ us hl => match us, hl with | [_, _, _, _], _ => rfl
  have b__law_twos_of : Binds K d__law_twos_of ["_law_width"] [] := F__law_twos_of.bindsN fun _ _ _ _ _ _ us hl => match us, hl with | [_], _ => rfl
  have b__law_pair_rows : Binds K d__law_pair_rows ["_law_rows", "_law_one", "_law_other"] [] := F__law_pair_rows.bindsN fun _ _ _ _ _ _ us hl => match us, hl with | [_, _, _], _ => rfl
  have b__law_by_pairs : Binds K d__law_by_pairs ["_law_marks_here", "_law_width", "_law_rows"] [] := F__law_by_pairs.bindsN fun _ _ _ _ _ _ us hl => match us, hl with | [_, _, _], _ => rfl
  have b__law_broken : Binds K d__law_broken ["_law_way", "_law_rows"] [] := F__law_broken.bindsN fun _ _ _ _ _ _ us hl => match us, hl with | [_, _], _ => rfl
  have b__law_is_three_rows : Binds K d__law_is_three_rows ["_law_rows", "_law_value"] [] := F__law_is_three_rows.bindsN fun _ _ _ _ _ _ us hl => match us, hl with | [_, _], _ => rfl
  have b__law_plain_closed : Binds K d__law_plain_closed ["_law_way", "_law_rows"] [] := F__law_plain_closed.bindsN fun _ _ _ _ _ _ us hl => match us, hl with | [_, _], _ => rfl
  have b__law_kept_right : Binds K d__law_kept_right ["_law_purse_here", "_law_marks_here", "_law_table", "_law_rows", "_law_way"] [] := F__law_kept_right.bindsN fun _ _ _ _ _ _ us hl => match us, hl with | [_, _, _, _, _], _ => rfl
  have G__law_draw := ok_draw (P := P) (w := w) (base := base) (mg := mg) F__law_draw N1 F__law_mixed (gd (p := ("_law_mixed", 39)) (by decide))
  have G__law_purse := ok_purse (P := P) (w := w) (base := base) (mg := mg) F__law_purse N1
  have G__law_purses := ok_purses (P := P) (w := w) (base := base) (mg := mg) F__law_purses N1 G__law_purse b__law_purse F__law_purse.kp (gd (p := ("_law_purse", 38)) (by decide))
  have G__law_one_of := ok_one (P := P) (w := w) (base := base) (mg := mg) F__law_one_of N1 G__law_draw b__law_draw F__law_draw.kp (gd (p := ("_law_draw", 40)) (by decide))
  have G__law_shuffled := ok_shuf (P := P) (w := w) (base := base) (mg := mg) F__law_shuffled N1 G__law_draw b__law_draw F__law_draw.kp (gd (p := ("_law_draw", 40)) (by decide))
  have G__law_same := same_all (P := P) (w := w) (base := base) (mg := mg) F__law_same N1 N6 b__law_same F__law_same.kp (gd (p := ("_law_same", 44)) (by decide)) 4
  have G__law_exact := exact_all (P := P) (w := w) (base := base) (mg := mg) F__law_exact N1 N6 b__law_exact F__law_exact.kp (gd (p := ("_law_exact", 45)) (by decide)) 4
  have G__law_exact5 := exact_all (P := P) (w := w) (base := base) (mg := mg) F__law_exact N1 N6 b__law_exact F__law_exact.kp (gd (p := ("_law_exact", 45)) (by decide)) 5
  have G__law_word := ok_word (P := P) (w := w) (base := base) (mg := mg) F__law_word N1 G__law_draw b__law_draw F__law_draw.kp (gd (p := ("_law_draw", 40)) (by decide))
  have G__law_words := ok_words (P := P) (w := w) (base := base) (mg := mg) F__law_words N1 N6 G__law_draw b__law_draw F__law_draw.kp (gd (p := ("_law_draw", 40)) (by decide)) G__law_word b__law_word F__law_word.kp (gd (p := ("_law_word", 46)) (by decide))
  have G__law_marks := ok_marks (P := P) (w := w) (base := base) (mg := mg) F__law_marks hso G__law_words b__law_words F__law_words.kp (gd (p := ("_law_words", 47)) (by decide))
  have G_is_count := ok_iscount (P := P) (w := w) (base := base) (mg := mg) F_is_count N1 N6
  have G_is_word := ok_isword (P := P) (w := w) (base := base) (mg := mg) F_is_word N1 N6 N7
  have G_are_marks := ok_aremarks (P := P) (w := w) (base := base) (mg := mg) F_are_marks N1 N6 G_is_word b_is_word F_is_word.kp (gd (p := ("is_word", 11)) (by decide))
  have G_check_marks := ok_checkmarks (P := P) (w := w) (base := base) (mg := mg) F_check_marks G_are_marks b_are_marks F_are_marks.kp (gd (p := ("are_marks", 12)) (by decide))
  have G_is_row := ok_isrow (P := P) (w := w) (base := base) (mg := mg) F_is_row N1 N6
  have G_check_width := ok_checkwidth (P := P) (w := w) (base := base) (mg := mg) F_check_width gW G_is_count b_is_count F_is_count.kp (gd (p := ("is_count", 10)) (by decide))
  have G_init := ok_tinit (P := P) (w := w) (base := base) (mg := mg) F_m0 TT N1 N6 hso hst G_check_marks b_check_marks F_check_marks.kp (gd (p := ("check_marks", 13)) (by decide)) G_check_width b_check_width F_check_width.kp (gd (p := ("check_width", 18)) (by decide)) G_is_row b_is_row F_is_row.kp (gd (p := ("is_row", 17)) (by decide))
  have M : TM P w K mg base (He.ga K "Table") := ⟨TT, ⟨_, _, G_init, F_m0.bindsN fun _ _ _ _ _ _ us hl => match us, hl with | [_, _, _, _], _ => rfl, He.mkr_ok (tbl_y c 10 rfl)⟩,
    ⟨_, _, ok_tmarks F_m1 TT N6, F_m1.bindsN fun _ _ _ _ _ _ us hl => match us, hl with | [_], _ => rfl, He.meth_ok (tbl_y c 6 rfl)⟩,
    ⟨_, _, ok_twidth F_m2 TT, F_m2.bindsN fun _ _ _ _ _ _ us hl => match us, hl with | [_], _ => rfl, He.meth_ok (tbl_y c 7 rfl)⟩,
    ⟨_, _, ok_trows F_m3 TT N6, F_m3.bindsN fun _ _ _ _ _ _ us hl => match us, hl with | [_], _ => rfl, He.meth_ok (tbl_y c 8 rfl)⟩,
    ⟨_, _, ok_teq F_m4 TT N6, F_m4.bindsN fun _ _ _ _ _ _ us hl => match us, hl with | [_, _], _ => rfl, (He.meth_ok (tbl_y c 9 rfl)).at_, (He.meth_ok (tbl_y c 9 rfl)).fn⟩⟩
  have G_check_table := ok_checktable (P := P) (w := w) (base := base) (mg := mg) F_check_table TT N6
  have G_twos_of := ok_twos (P := P) (w := w) (base := base) (mg := mg) F_twos_of N1
  have G__are_spots := ok_arespots (P := P) (w := w) (base := base) (mg := mg) F__are_spots N1 N6 gW G_is_count b_is_count F_is_count.kp (gd (p := ("is_count", 10)) (by decide))
  have G_chosen := ok_chosen (P := P) (w := w) (base := base) (mg := mg) F_chosen M N1 N6 G_check_table b_check_table F_check_table.kp (gd (p := ("check_table", 19)) (by decide)) G__are_spots b__are_spots F__are_spots.kp (gd (p := ("_are_spots", 22)) (by decide))
  have G_threes_of := ok_threesof (P := P) (w := w) (base := base) (mg := mg) F_threes_of
  have G_mark_twice_in := ok_twice (P := P) (w := w) (base := base) (mg := mg) F_mark_twice_in
  have G_is_way_over := ok_iswayover (P := P) (w := w) (base := base) (mg := mg) F_is_way_over N1 N6 G_threes_of b_threes_of F_threes_of.kp (gd (p := ("threes_of", 24)) (by decide))
  have G_is_majority_over := ok_ismajover (P := P) (w := w) (base := base) (mg := mg) F_is_majority_over N6 G_threes_of b_threes_of F_threes_of.kp (gd (p := ("threes_of", 24)) (by decide)) G_is_way_over b_is_way_over F_is_way_over.kp (gd (p := ("is_way_over", 26)) (by decide)) G_mark_twice_in b_mark_twice_in F_mark_twice_in.kp (gd (p := ("mark_twice_in", 25)) (by decide))
  have G_check_way := ok_checkway (P := P) (w := w) (base := base) (mg := mg) F_check_way M G_check_table b_check_table F_check_table.kp (gd (p := ("check_table", 19)) (by decide)) G_is_way_over b_is_way_over F_is_way_over.kp (gd (p := ("is_way_over", 26)) (by decide))
  have G_picker := ok_picker (P := P) (w := w) (base := base) (mg := mg) F_picker G_check_marks b_check_marks F_check_marks.kp (gd (p := ("check_marks", 13)) (by decide)) G_is_count b_is_count F_is_count.kp (gd (p := ("is_count", 10)) (by decide)) G_threes_of b_threes_of F_threes_of.kp (gd (p := ("threes_of", 24)) (by decide))
  have G__gift := ok_gift8 (P := P) (w := w) (base := base) (mg := mg) F__gift N6
  have G_why_broken := ok_why (P := P) (w := w) (base := base) (mg := mg) F_why_broken M N6 G_check_way b_check_way F_check_way.kp (gd (p := ("check_way", 28)) (by decide)) G__gift b__gift F__gift.kp (gd (p := ("_gift", 33)) (by decide)) hst
  have G_keeps := ok_keeps (P := P) (w := w) (base := base) (mg := mg) F_keeps G_why_broken b_why_broken F_why_broken.kp (gd (p := ("why_broken", 31)) (by decide))
  have G_is_why_broken := ok_iswhy (P := P) (w := w) (base := base) (mg := mg) F_is_why_broken M N1 N6 G_check_way b_check_way F_check_way.kp (gd (p := ("check_way", 28)) (by decide)) G__gift b__gift F__gift.kp (gd (p := ("_gift", 33)) (by decide))
  have G__gifts_with_last := ok_last (P := P) (w := w) (base := base) (mg := mg) F__gifts_with_last G__gift b__gift F__gift.kp (gd (p := ("_gift", 33)) (by decide))
  have G_closed_by := ok_closedby (P := P) (w := w) (base := base) (mg := mg) F_closed_by M N6 G_check_way b_check_way F_check_way.kp (gd (p := ("check_way", 28)) (by decide)) G__gifts_with_last b__gifts_with_last F__gifts_with_last.kp (gd (p := ("_gifts_with_last", 35)) (by decide)) hst
  have G_keeps_by_pairs := ok_keepsp (P := P) (w := w) (base := base) (mg := mg) F_keeps_by_pairs M N6 G_check_table b_check_table F_check_table.kp (gd (p := ("check_table", 19)) (by decide)) G_is_majority_over b_is_majority_over F_is_majority_over.kp (gd (p := ("is_majority_over", 27)) (by decide)) G_twos_of b_twos_of F_twos_of.kp (gd (p := ("twos_of", 20)) (by decide)) G_chosen b_chosen F_chosen.kp (gd (p := ("chosen", 21)) (by decide)) G_keeps b_keeps F_keeps.kp (gd (p := ("keeps", 30)) (by decide))
  have G__law_threes := ok_threes (P := P) (w := w) (base := base) (mg := mg) F__law_threes N1
  have G__law_majority := ok_lawmaj (P := P) (w := w) (base := base) (mg := mg) F__law_majority G__law_threes b__law_threes F__law_threes.kp (gd (p := ("_law_threes", 49)) (by decide)) G__law_one_of b__law_one_of F__law_one_of.kp (gd (p := ("_law_one_of", 42)) (by decide))
  have G__law_middle := ok_lawmid (P := P) (w := w) (base := base) (mg := mg) F__law_middle hso G__law_threes b__law_threes F__law_threes.kp (gd (p := ("_law_threes", 49)) (by decide))
  have G__law_given := ok_lgiven (P := P) (w := w) (base := base) (mg := mg) F__law_given N6
  have G__law_row := ok_lrow (P := P) (w := w) (base := base) (mg := mg) F__law_row N1 N6 G__law_one_of b__law_one_of F__law_one_of.kp (gd (p := ("_law_one_of", 42)) (by decide))
  have G__law_drawn_rows := ok_ldrawn (P := P) (w := w) (base := base) (mg := mg) F__law_drawn_rows N1 N6 hso G__law_row b__law_row F__law_row.kp (gd (p := ("_law_row", 53)) (by decide)) G__law_draw b__law_draw F__law_draw.kp (gd (p := ("_law_draw", 40)) (by decide))
  have G__law_every := ok_every (P := P) (w := w) (base := base) (mg := mg) F__law_every N1
  have G__law_told_table := ok_ltold (P := P) (w := w) (base := base) (mg := mg) F__law_told_table M
  have G__law_is_table := ok_lis (P := P) (w := w) (base := base) (mg := mg) F__law_is_table M N6 hso G__law_told_table b__law_told_table F__law_told_table.kp (gd (p := ("_law_told_table", 56)) (by decide)) G__law_exact b__law_exact F__law_exact.kp (gd (p := ("_law_exact", 45)) (by decide))
  have G__law_twos_of := ok_ltwos (P := P) (w := w) (base := base) (mg := mg) F__law_twos_of N1
  have G__law_pair_rows := ok_lpairrows (P := P) (w := w) (base := base) (mg := mg) F__law_pair_rows N6 hso
  have G__law_by_pairs := ok_lbypairs (P := P) (w := w) (base := base) (mg := mg) F__law_by_pairs N6 G__law_twos_of b__law_twos_of F__law_twos_of.kp (gd (p := ("_law_twos_of", 58)) (by decide)) G__law_pair_rows b__law_pair_rows F__law_pair_rows.kp (gd (p := ("_law_pair_rows", 59)) (by decide)) G__law_every b__law_every F__law_every.kp (gd (p := ("_law_every", 55)) (by decide))
  have G__law_broken := ok_lbroken (P := P) (w := w) (base := base) (mg := mg) F__law_broken G__law_given b__law_given F__law_given.kp (gd (p := ("_law_given", 52)) (by decide))
  have G__law_is_three_rows := ok_lis3 (P := P) (w := w) (base := base) (mg := mg) F__law_is_three_rows N1 N6
  have G__law_plain_closed := ok_lplain (P := P) (w := w) (base := base) (mg := mg) F__law_plain_closed N1 N6 hso G__law_given b__law_given F__law_given.kp (gd (p := ("_law_given", 52)) (by decide))
  have CK : CalK P w K mg base (He.ga K "Table") := ⟨M, ⟨_, _, G__law_one_of, b__law_one_of, F__law_one_of.kp, gd (p := ("_law_one_of", 42)) (by decide)⟩,
    ⟨_, _, G__law_every, b__law_every, F__law_every.kp, gd (p := ("_law_every", 55)) (by decide)⟩,
    ⟨_, _, G__law_given, b__law_given, F__law_given.kp, gd (p := ("_law_given", 52)) (by decide)⟩,
    ⟨_, _, G__law_broken, b__law_broken, F__law_broken.kp, gd (p := ("_law_broken", 61)) (by decide)⟩,
    ⟨_, _, G__law_is_three_rows, b__law_is_three_rows, F__law_is_three_rows.kp, gd (p := ("_law_is_three_rows", 62)) (by decide)⟩,
    ⟨_, _, G__law_plain_closed, b__law_plain_closed, F__law_plain_closed.kp, gd (p := ("_law_plain_closed", 63)) (by decide)⟩,
    ⟨_, _, G__law_same, b__law_same, F__law_same.kp, gd (p := ("_law_same", 44)) (by decide)⟩,
    ⟨_, _, G__law_exact5, b__law_exact, F__law_exact.kp, gd (p := ("_law_exact", 45)) (by decide)⟩,
    ⟨_, _, G__law_is_table, b__law_is_table, F__law_is_table.kp, gd (p := ("_law_is_table", 57)) (by decide)⟩,
    ⟨_, _, G_why_broken, b_why_broken, F_why_broken.kp, gd (p := ("why_broken", 31)) (by decide)⟩,
    ⟨_, _, G_is_why_broken, b_is_why_broken, F_is_why_broken.kp, gd (p := ("is_why_broken", 32)) (by decide)⟩,
    ⟨_, _, G_keeps, b_keeps, F_keeps.kp, gd (p := ("keeps", 30)) (by decide)⟩,
    ⟨_, _, G_closed_by, b_closed_by, F_closed_by.kp, gd (p := ("closed_by", 34)) (by decide)⟩⟩
  have G__law_kept_right := ok_kept (P := P) (w := w) (base := base) (mg := mg) F__law_kept_right CK N1 N6
  have C : CalL P w K mg base (He.ga K "Table") := ⟨M, ⟨_, _, G__law_purses, b__law_purses, F__law_purses.kp, gd (p := ("_law_purses", 41)) (by decide)⟩,
    ⟨_, _, G__law_draw, b__law_draw, F__law_draw.kp, gd (p := ("_law_draw", 40)) (by decide)⟩,
    ⟨_, _, G__law_one_of, b__law_one_of, F__law_one_of.kp, gd (p := ("_law_one_of", 42)) (by decide)⟩,
    ⟨_, _, G__law_marks, b__law_marks, F__law_marks.kp, gd (p := ("_law_marks", 48)) (by decide)⟩,
    ⟨_, _, G__law_threes, b__law_threes, F__law_threes.kp, gd (p := ("_law_threes", 49)) (by decide)⟩,
    ⟨_, _, G__law_majority, b__law_majority, F__law_majority.kp, gd (p := ("_law_majority", 50)) (by decide)⟩,
    ⟨_, _, G__law_middle, b__law_middle, F__law_middle.kp, gd (p := ("_law_middle", 51)) (by decide)⟩,
    ⟨_, _, G__law_shuffled, b__law_shuffled, F__law_shuffled.kp, gd (p := ("_law_shuffled", 43)) (by decide)⟩,
    ⟨_, _, G__law_drawn_rows, b__law_drawn_rows, F__law_drawn_rows.kp, gd (p := ("_law_drawn_rows", 54)) (by decide)⟩,
    ⟨_, _, G__law_exact5, b__law_exact, F__law_exact.kp, gd (p := ("_law_exact", 45)) (by decide)⟩,
    ⟨_, _, G__law_broken, b__law_broken, F__law_broken.kp, gd (p := ("_law_broken", 61)) (by decide)⟩,
    ⟨_, _, G_keeps, b_keeps, F_keeps.kp, gd (p := ("keeps", 30)) (by decide)⟩,
    ⟨_, _, G_keeps_by_pairs, b_keeps_by_pairs, F_keeps_by_pairs.kp, gd (p := ("keeps_by_pairs", 36)) (by decide)⟩,
    ⟨_, _, G_picker, b_picker, F_picker.kp, gd (p := ("picker", 29)) (by decide)⟩,
    ⟨_, _, G__law_twos_of, b__law_twos_of, F__law_twos_of.kp, gd (p := ("_law_twos_of", 58)) (by decide)⟩,
    ⟨_, _, G__law_pair_rows, b__law_pair_rows, F__law_pair_rows.kp, gd (p := ("_law_pair_rows", 59)) (by decide)⟩,
    ⟨_, _, G__law_by_pairs, b__law_by_pairs, F__law_by_pairs.kp, gd (p := ("_law_by_pairs", 60)) (by decide)⟩,
    ⟨_, _, G__law_kept_right, b__law_kept_right, F__law_kept_right.kp, gd (p := ("_law_kept_right", 64)) (by decide)⟩⟩
  exact ok_law F_law C N1 N6
end Yt

set_option Elab.async false
set_option linter.all false
set_option maxRecDepth 100000
set_option maxHeartbeats 0
open PySem PySem.W PySem.Calls PyProof.Rows
theorem PySem.Challenge.cw_pairtells_k08_whole_tables_kept_and_clos_holds : PySem.Challenge.rw_pairtells_k08_whole_tables_kept_and_clos.Holds := by
  w_on; o_law
  refine HandSHeadRun.head_any (r := OpenLaw.row PySem.Challenge.rw_pairtells_k08_whole_tables_kept_and_clos) (q := view (OpenLaw.row PySem.Challenge.rw_pairtells_k08_whole_tables_kept_and_clos).prog [65]) (H := Yt.hkY) (ob := Yt.obT) (M := 10000) (loose := Yt.looseY) (d := HandSHeadRun.topDef (OpenLaw.row PySem.Challenge.rw_pairtells_k08_whole_tables_kept_and_clos).prog 65) (kwd := []) Yt.obT_eq
    (by kernel_rfl) (fun s => by kernel_rfl) Yt.run (by kernel_rfl) (by kernel_rfl) (by kernel_rfl) (by rfl) (by first | assumption | decide +kernel) (by decide +kernel) ⟨rfl, rfl, rfl, rfl, rfl, by decide +kernel⟩ ?hw ?hc
  case hw => w_witness2
  case hc =>
    refine L2.walk_ofE (l := PySem.Challenge.rw_pairtells_k08_whole_tables_kept_and_clos) (n := 63) (k := 10) (x := "_law_script") (CX := L2.CX0) rfl (by decide) (by kernel_rfl) ⟨rfl, by decide, by decide⟩ ?F (fun _ _ _ _ z => z)
    intro w mg fa h Y G hmg0
    obtain ⟨K, KX, c, hm⟩ := Y
    have hmg : mg ("law" : PySem.Str) = some (.ref fa) := by
      have e : (HandSHeadRun.topDef (OpenLaw.row PySem.Challenge.rw_pairtells_k08_whole_tables_kept_and_clos).prog 65).name = ("law" : PySem.Str) := by kernel_rfl
      rw [← e]
      exact hmg0
    obtain ⟨fd, hb, hF⟩ := Yt.facts (P := (PySem.Challenge.rw_pairtells_k08_whole_tables_kept_and_clos).prog) (w := w) KX G hmg c hm
    exact ⟨K, fd, Yt.spLaw K, KX, hb, fun H a ns hl _ hS => ⟨a, ns, rfl, hS, hl, fun _ => rfl⟩, hF⟩
