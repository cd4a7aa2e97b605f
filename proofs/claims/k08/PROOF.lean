import PyProof.Rows.All
import Wide.All
import OpenK.AllK
import Wide.FinOn
import PyProof.EqAt
import PyProof.EqKinds
import PyProof.TupleCall
import KE.KStateDown
import HandS.ForMost
import HandS.Flow
import HandS.Exc
import HandS.TryOnly
import HandS.TryMany
import HandS.ExcOwn
import HandS.WordsExc
import HandS.ExcField
import HandS.IsInst
import HandS.Deep
import HandS.Conv
import HandS.Style
import HandS.TupAny
import HandS.TupMul
import HandS.Star
import HandS.FStr
import HandS.Strs
import HandS.Defaults
import HandS.More
import HandS.Codes
import HandS.MakeKw
import HandS.MakeKwOnly
import HandS.Head0
import HandS.Head1
import HandS.Head2
import HandS.HeadEnd
import HandS.HeadHook1
import HandS.HeadHook2
import KE.KExcInit
import KE.KExcIs
import KE.KExcHand
import HandS.ExcValue
import PyProof.Rows.SetFrom
import HandS.Walk
import PySem.Challenge.RW_cutweave_k08_histories_and_spoilt_ones
import HandS.Dict
import KE.KxText
import HandS.HotCalls
import KE.GoesEnum
import KE.GoesZip
import KE.DataCmp
set_option Elab.async false
set_option linter.all false
set_option maxRecDepth 100000
set_option maxHeartbeats 4000000
namespace Cw
open PySem PySem.Spec PyProof.Rows L2
/-! ### the world: what is known for good (G) within what is there (H) -/
def Ex (H H' : Hp) : Prop := ∀ a o, H a = some o → H' a = some o
theorem Ex.refl (H : Hp) : Ex H H := fun _ _ h => h
theorem Ex.trans {H H1 H2 : Hp} (a : Ex H H1) (b : Ex H1 H2) : Ex H H2 := fun x o h => b x o (a x o h)
theorem Ex.new {H : Hp} {p : Addr} {o : HO} (h : H p = none) : Ex H (upd H p o) := fun a u e => by
  rw [upd_ne (ne_of_none e h)]
  exact e
/-- an object that H does not know may change -/
theorem Ex.mut {H H' : Hp} {p : Addr} {o : HO} (e : Ex H H') (h : H p = none) : Ex H (upd H' p o) := fun a u ha => by
  rw [upd_ne (ne_of_none ha h)]
  exact e a u ha
theorem Ex.add {G H : Hp} {p : Addr} {o : HO} (e : Ex G H) (h : H p = some o) : Ex (upd G p o) H := fun a u ha => by
  by_cases z : a = p
  · subst z
    rw [upd_same] at ha
    cases ha
    exact h
  · rw [upd_ne z] at ha
    exact e a u ha
theorem Ex.back {H H' : Hp} {p : Addr} (e : Ex H H') (h : H' p = none) : H p = none := by
  cases h1 : H p with
  | none => rfl
  | some o =>
    rw [e p o h1] at h
    cases h
theorem Ex.rd {H H' : Hp} {a : Addr} {u : HO} (e : Ex H H') (h : Rd H a u) : Rd H' a u := by
  rcases h with h | ⟨o, h⟩
  · exact Or.inl (e a _ h)
  · exact Or.inr ⟨o, e a _ h⟩
theorem Ex.sl {K : PySem.W.Frag} {H H' : Hp} {a : Addr} {xs : List V} (e : Ex H H') (h : SqL K H a xs) : SqL K H' a xs := by
  rcases h with h | h
  · exact Or.inl (e.rd h)
  · exact Or.inr h
theorem Ex.st {K : PySem.W.Frag} {H H' : Hp} {a : Addr} {xs : List V} (e : Ex H H') (h : SqT K H a xs) : SqT K H' a xs := by
  rcases h with h | h
  · exact Or.inl (e.rd h)
  · exact Or.inr h
/-- from (G, H) to (G', H'): G and H have grown, at b (if at all) H has changed; G' knows of what was there no more than G did -/
structure Gro (b : Option Addr) (G H G' H' : Hp) : Prop where
  g : Ex G G'
  w : Ex G' H'
  k : ∀ a o, some a ≠ b → H a = some o → H' a = some o
  n : ∀ a, H a ≠ none → G a = none → G' a = none
theorem Gro.ex {G H G' H' : Hp} (g : Gro none G H G' H') : Ex H H' := fun a o h => g.k a o (fun z => nomatch z) h
theorem Gro.refl {b : Option Addr} {G H : Hp} (e : Ex G H) : Gro b G H G H := ⟨Ex.refl G, e, fun _ _ _ h => h, fun _ _ h => h⟩
theorem Gro.mono {b : Option Addr} {G H G' H' : Hp} (g : Gro none G H G' H') : Gro b G H G' H' := ⟨g.g, g.w, fun a o _ h => g.ex a o h, g.n⟩
theorem Gro.trans {b : Option Addr} {G H G1 H1 G2 H2 : Hp} (x : Gro b G H G1 H1) (y : Gro b G1 H1 G2 H2) (hb : ∀ a, b = some a → H a ≠ none → H1 a ≠ none) : Gro b G H G2 H2 :=
  ⟨x.g.trans y.g, y.w, fun a o z h => y.k a o z (x.k a o z h), fun a h z => y.n a (by
    by_cases e : some a = b
    · exact hb a e.symm h
    · cases q : H a with
      | none => exact absurd q h
      | some o =>
        rw [x.k a o e q]
        exact fun z => nomatch z) (x.n a h z)⟩
theorem Gro.trans0 {G H G1 H1 G2 H2 : Hp} (x : Gro none G H G1 H1) (y : Gro none G1 H1 G2 H2) : Gro none G H G2 H2 := x.trans y fun a z => nomatch z
/-- only H has grown -/
theorem Gro.up {G H H' : Hp} (e : Ex G H) (k : Ex H H') : Gro none G H G H' := ⟨Ex.refl G, e.trans k, fun a o _ h => k a o h, fun _ _ h => h⟩
/-- a new object, known from now on -/
theorem Gro.new {G H : Hp} {p : Addr} {o : HO} (e : Ex G H) (h : H p = none) : Gro none G H (upd G p o) (upd H p o) :=
  ⟨Ex.new (e.back h), fun a u ha => by
    by_cases z : a = p
    · subst z
      rw [upd_same] at ha ⊢
      exact ha
    · rw [upd_ne z] at ha ⊢
      exact e a u ha, fun a u _ ha => Ex.new h a u ha, fun a ha z => by
    have q : a ≠ p := fun y => by
      rw [y] at ha
      exact ha h
    rw [upd_ne q]
    exact z⟩
/-! ### data: what a value is worth -/
mutual
inductive Rp (K : PySem.W.Frag) (G : Hp) : V → PyData → Prop
  | non : Rp K G .non .none
  | bl (b : Bool) : Rp K G (.bl b) (.bool b)
  | int (i : Int) : Rp K G (.int i) (.int i)
  | str (x : Str) : Rp K G (.str x) (.str x)
  | lst {a : Addr} {xs : List V} {ds : List PyData} : G a = some (.lst xs) → Rps K G xs ds → Rp K G (.ref a) (.list ds)
  | tup {a : Addr} {xs : List V} {ds : List PyData} : SqT K G a xs → Rps K G xs ds → Rp K G (.ref a) (.tuple ds)
inductive Rps (K : PySem.W.Frag) (G : Hp) : List V → List PyData → Prop
  | nil : Rps K G [] []
  | cons {v : V} {vs : List V} {d : PyData} {ds : List PyData} : Rp K G v d → Rps K G vs ds → Rps K G (v :: vs) (d :: ds)
end
mutual
theorem Rp.mono {K : PySem.W.Frag} {G G' : Hp} (e : Ex G G') : ∀ {v : V} {d : PyData}, Rp K G v d → Rp K G' v d
  | _, _, .non => .non
  | _, _, .bl b => .bl b
  | _, _, .int i => .int i
  | _, _, .str x => .str x
  | _, _, .lst h r => .lst (e _ _ h) (Rps.mono e r)
  | _, _, .tup h r => .tup (e.st h) (Rps.mono e r)
theorem Rps.mono {K : PySem.W.Frag} {G G' : Hp} (e : Ex G G') : ∀ {vs : List V} {ds : List PyData}, Rps K G vs ds → Rps K G' vs ds
  | _, _, .nil => .nil
  | _, _, .cons h r => .cons (Rp.mono e h) (Rps.mono e r)
end
mutual
theorem Rp.dp {K : PySem.W.Frag} {G : Hp} : ∀ {v : V} {d : PyData}, Rp K G v d → Dp K G v d
  | _, _, .non => .non
  | _, _, .bl b => .bl b
  | _, _, .int i => .int i
  | _, _, .str x => .str x
  | _, _, .lst h r => .lst (.inl (.inl h)) (Rps.dp r)
  | _, _, .tup h r => .tup h (Rps.dp r)
theorem Rps.dp {K : PySem.W.Frag} {G : Hp} : ∀ {vs : List V} {ds : List PyData}, Rps K G vs ds → DpAll K G vs ds
  | _, _, .nil => .nil
  | _, _, .cons h r => .cons (Rp.dp h) (Rps.dp r)
end
section
variable {K : PySem.W.Frag} {G : Hp}
theorem Rps.len : ∀ {vs : List V} {ds : List PyData}, Rps K G vs ds → vs.length = ds.length
  | _, _, .nil => rfl
  | _, _, .cons _ r => by rw [List.length_cons, List.length_cons, Rps.len r]
theorem Rps.get : ∀ {vs : List V} {ds : List PyData} {i : Nat} {d : PyData}, Rps K G vs ds → ds[i]? = some d → ∃ v, vs[i]? = some v ∧ Rp K G v d
  | _, _, _, _, .nil, e => by simp at e
  | _, _, 0, _, .cons h _, e => by
    simp at e
    subst e
    exact ⟨_, rfl, h⟩
  | _, _, i + 1, d, .cons _ r, e => by
    obtain ⟨v, h1, h2⟩ := Rps.get (i := i) (d := d) r (by simpa using e)
    exact ⟨v, by simpa using h1, h2⟩
theorem Rps.at {vs : List V} {ds : List PyData} {i : Nat} {v : V} (h : Rps K G vs ds) (e : vs[i]? = some v) : ∃ d, ds[i]? = some d ∧ Rp K G v d := by
  have hi : i < ds.length := by
    rw [← h.len]
    exact (List.getElem?_eq_some_iff.mp e).1
  obtain ⟨u, h1, h2⟩ := h.get (List.getElem?_eq_getElem hi)
  rw [e] at h1
  cases h1
  exact ⟨_, List.getElem?_eq_getElem hi, h2⟩
theorem Rps.app : ∀ {vs us : List V} {ds es : List PyData}, Rps K G vs ds → Rps K G us es → Rps K G (vs ++ us) (ds ++ es)
  | _, _, _, _, .nil, h => h
  | _, _, _, _, .cons h r, q => .cons h (Rps.app r q)
theorem Rps.drop : ∀ {vs : List V} {ds : List PyData} (n : Nat), Rps K G vs ds → Rps K G (vs.drop n) (ds.drop n)
  | _, _, 0, r => r
  | _, _, _ + 1, .nil => .nil
  | _, _, n + 1, .cons _ r => Rps.drop n r
theorem Rps.take : ∀ {vs : List V} {ds : List PyData} (n : Nat), Rps K G vs ds → Rps K G (vs.take n) (ds.take n)
  | _, _, 0, _ => .nil
  | _, _, _ + 1, .nil => .nil
  | _, _, n + 1, .cons h r => .cons h (Rps.take n r)
theorem Rps.rep {v : V} {d : PyData} (h : Rp K G v d) : ∀ n : Nat, Rps K G (List.replicate n v) (List.replicate n d)
  | 0 => .nil
  | n + 1 => .cons h (Rps.rep h n)
theorem Rps.one {v : V} {d : PyData} (h : Rp K G v d) : Rps K G [v] [d] := .cons h .nil
theorem Rps.set {v : V} {d : PyData} (h : Rp K G v d) : ∀ {vs : List V} {ds : List PyData} (i : Nat), Rps K G vs ds → Rps K G (vs.set i v) (ds.set i d)
  | _, _, _, .nil => .nil
  | _, _, 0, .cons _ r => .cons h r
  | _, _, i + 1, .cons q r => .cons q (Rps.set h i r)
theorem rp_int {v : V} {i : Int} (h : Rp K G v (.int i)) : v = .int i := by cases h <;> rfl
theorem rp_bool {v : V} {i : Bool} (h : Rp K G v (.bool i)) : v = .bl i := by cases h <;> rfl
theorem rp_str {v : V} {i : Str} (h : Rp K G v (.str i)) : v = .str i := by cases h <;> rfl
theorem rp_none {v : V} (h : Rp K G v .none) : v = .non := by cases h <;> rfl
theorem rp_tup {v : V} {ds : List PyData} (h : Rp K G v (.tuple ds)) : ∃ a vs, v = .ref a ∧ SqT K G a vs ∧ Rps K G vs ds := by
  cases h with
  | tup h r => exact ⟨_, _, rfl, h, r⟩
theorem rp_lst {v : V} {ds : List PyData} (h : Rp K G v (.list ds)) : ∃ a vs, v = .ref a ∧ G a = some (.lst vs) ∧ Rps K G vs ds := by
  cases h with
  | lst h r => exact ⟨_, _, rfl, h, r⟩
theorem rp_nodict {v : V} {ds : List (PyData × PyData)} (h : Rp K G v (.dict ds)) : False := by cases h
theorem rps_ints {vs : List V} {ns : List Int} (h : Rps K G vs (ns.map .int)) : vs = ns.map .int := by
  induction ns generalizing vs with
  | nil => cases h <;> rfl
  | cons n r ih =>
    cases h with
    | cons h1 h2 => rw [rp_int h1, ih h2] <;> rfl
theorem ints_rps : ∀ ns : List Int, Rps K G (ns.map V.int) (ns.map .int)
  | [] => .nil
  | n :: r => .cons (.int n) (ints_rps r)
end
end Cw

set_option maxHeartbeats 4000000
namespace Cw
open PySem PySem.Spec PyProof.Rows L2
/-! ### what the module's names are: the built-in ones are free -/
structure Blt (mg : Str → Option Value) : Prop where
  len_ : mg "len" = none
  range_ : mg "range" = none
  int_ : mg "int" = none
  str_ : mg "str" = none
  bool_ : mg "bool" = none
  list_ : mg "list" = none
  tuple_ : mg "tuple" = none
  set_ : mg "set" = none
  dict_ : mg "dict" = none
  isinstance_ : mg "isinstance" = none
  all_ : mg "all" = none
  any_ : mg "any" = none
  enumerate_ : mg "enumerate" = none
  zip_ : mg "zip" = none
  min_ : mg "min" = none
  max_ : mg "max" = none
  sum_ : mg "sum" = none
  sorted_ : mg "sorted" = none
  reversed_ : mg "reversed" = none
  Exception_ : mg "Exception" = none
  ValueError_ : mg "ValueError" = none
theorem bo_len : bootBuiltins "len" = some (.builtin "len") := PySem.boot_len
theorem bo_isinstance : bootBuiltins "isinstance" = some (.builtin "isinstance") := by decide +kernel
theorem bo_all : bootBuiltins "all" = some (.builtin "all") := by decide +kernel
theorem bo_any : bootBuiltins "any" = some (.builtin "any") := by decide +kernel
theorem bo_int : bootBuiltins "int" = some (.type "int") := by decide +kernel
theorem bo_str : bootBuiltins "str" = some (.type "str") := by decide +kernel
theorem bo_bool : bootBuiltins "bool" = some (.type "bool") := by decide +kernel
theorem bo_list : bootBuiltins "list" = some (.type "list") := by decide +kernel
theorem bo_tuple : bootBuiltins "tuple" = some (.type "tuple") := by decide +kernel
theorem bo_set : bootBuiltins "set" = some (.type "set") := by decide +kernel
theorem bo_Exception : bootBuiltins "Exception" = some (.type "Exception") := by decide +kernel
theorem bo_ValueError : bootBuiltins "ValueError" = some (.type "ValueError") := by decide +kernel

/-! ### a def of the text -/
abbrev FnP (K : PySem.W.Frag) (x : Str) (st : Stmt) (f : Addr) (fd : FuncData) : Prop := FunD K x x (defArgs st) (defBody st) (defScope st) [] [] f fd
/-- a def that a name of the module stands for, and what it promises (no exception) -/
def Cal (P : Program) (w : World) (K : PySem.W.Frag) (mg : Str → Option Value) (base : Heap) (k : Nat) (x : Str) (ps : List Str) (sp : Sp) : Prop :=
  ∃ f fd, FnOk P w K mg base CX0 k f fd ps sp ∧ mg x = some (.ref f) ∧ PySem.W.keepIn K (.ref f) = true ∧ Binds K fd ps []
/-- the same of one that may raise -/
def CalX (P : Program) (w : World) (K : PySem.W.Frag) (mg : Str → Option Value) (base : Heap) (k : Nat) (x : Str) (ps : List Str) (sp : Sp) : Prop :=
  ∃ f fd, FnOk P w K mg base (L2.CX P w) k f fd ps sp ∧ mg x = some (.ref f) ∧ PySem.W.keepIn K (.ref f) = true ∧ Binds K fd ps []
section
variable {P : Program} {w : World} {K : PySem.W.Frag} {mg : Str → Option Value} {base : Heap}
theorem Cal.imp {k : Nat} {x : Str} {ps : List Str} {sp sp' : Sp} (c : Cal P w K mg base k x ps sp) (h : ∀ vs H Q E, sp' vs H Q E → sp vs H Q E) : Cal P w K mg base k x ps sp' := by
  obtain ⟨f, fd, h1, h2⟩ := c
  exact ⟨f, fd, h1.imp h, h2⟩
theorem Cal.mono {j k : Nat} {x : Str} {ps : List Str} {sp : Sp} (c : Cal P w K mg base j x ps sp) (h : j ≤ k) : Cal P w K mg base k x ps sp := by
  obtain ⟨f, fd, h1, h2⟩ := c
  exact ⟨f, fd, h1.mono h, h2⟩
/-- a def of the text that raises nothing keeps its promise -/
theorem cal_of {x : Str} {st : Stmt} {f : Addr} {fd : FuncData} {N ps : List Str} {k : Nat} {sp : Sp} (F : FnP K x st f fd) (hm : mg x = some (.ref f)) (S : FnScope N ps (defScope st))
    (hb : ∀ (dV kV doc pm : Value) (an : Option Addr) (cdv ct : Value) (us : List Value), us.length = ps.length → bindArgs (PySem.W.fnOf x x (defArgs st) (defBody st) (defScope st) .none kV doc pm an cdv ct) ⟨us, []⟩ = pure (ps.zip us))
    (len : ∀ vs H Q E, sp vs H Q E → vs.length = ps.length)
    (body : ∀ (cdv : Value) (A : Around) (outer : List Env) (s : Shared) (H : Hp) (vs : List V) (Q : VK) (E : XK), Room k (A.deeper (envOfC x (defScope st) s.heap.objs.size f cdv)) → sp vs H Q E →
      ∃ t σ, PSs (cxOf CX0 P w K mg base N x (defScope st) f cdv A outer s H E).nox (defBody st) t ∧ start N vs = σ ∧ t { nx := fun _ H' => Q .non H', rt := Q } σ H) :
    Cal P w K mg base (k + 1) x ps sp := by
  refine ⟨f, fd, FunD.ok F S len (fun cdv A outer s H vs Q E hr h => ?_), hm, F.kp, ?_⟩
  · obtain ⟨t, σ, h1, rfl, h2⟩ := body cdv A outer s H vs Q E hr h
    exact ⟨t, PSs.nox h1, h2⟩
  · obtain ⟨oc, od, dV, kV, doc, pm, an, cdv, ct, osl, rfl, lk, hcd, hd, hk⟩ := F.ex
    rcases hd with ⟨_, rfl⟩ | ⟨z, _⟩
    · exact .all fun us hu => hb .none kV doc pm an cdv ct us hu
    · exact absurd rfl z
/-- a def stands there, of which nothing is asked -/
theorem cal_never {x : Str} {st : Stmt} {f : Addr} {fd : FuncData} {ps : List Str} {k : Nat} {sp : Sp} (F : FnP K x st f fd) (hm : mg x = some (.ref f))
    (hb : ∀ (dV kV doc pm : Value) (an : Option Addr) (cdv ct : Value) (us : List Value), us.length = ps.length → bindArgs (PySem.W.fnOf x x (defArgs st) (defBody st) (defScope st) .none kV doc pm an cdv ct) ⟨us, []⟩ = pure (ps.zip us))
    (no : ∀ vs H Q E, ¬ sp vs H Q E) : Cal P w K mg base k x ps sp := by
  refine ⟨f, fd, ⟨fun vs H Q E h => absurd h (no vs H Q E), fun A outer s H args us vs Q E _ _ _ _ h => absurd h (no vs H Q E)⟩, hm, F.kp, ?_⟩
  obtain ⟨oc, od, dV, kV, doc, pm, an, cdv, ct, osl, rfl, lk, hcd, hd, hk⟩ := F.ex
  rcases hd with ⟨_, rfl⟩ | ⟨z, _⟩
  · exact .all fun us hu => hb .none kV doc pm an cdv ct us hu
  · exact absurd rfl z
theorem calX_of {x : Str} {st : Stmt} {f : Addr} {fd : FuncData} {N ps : List Str} {k : Nat} {sp : Sp} (F : FnP K x st f fd) (hm : mg x = some (.ref f)) (S : FnScope N ps (defScope st))
    (hb : ∀ (dV kV doc pm : Value) (an : Option Addr) (cdv ct : Value) (us : List Value), us.length = ps.length → bindArgs (PySem.W.fnOf x x (defArgs st) (defBody st) (defScope st) .none kV doc pm an cdv ct) ⟨us, []⟩ = pure (ps.zip us))
    (len : ∀ vs H Q E, sp vs H Q E → vs.length = ps.length)
    (body : ∀ (cdv : Value) (A : Around) (outer : List Env) (s : Shared) (H : Hp) (vs : List V) (Q : VK) (E : XK), Room k (A.deeper (envOfC x (defScope st) s.heap.objs.size f cdv)) → sp vs H Q E →
      ∃ t σ, PSs (cxOf (L2.CX P w) P w K mg base N x (defScope st) f cdv A outer s H E) (defBody st) t ∧ start N vs = σ ∧ t { nx := fun _ H' => Q .non H', rt := Q } σ H) :
    CalX P w K mg base (k + 1) x ps sp := by
  refine ⟨f, fd, FunD.ok F S len (fun cdv A outer s H vs Q E hr h => ?_), hm, F.kp, ?_⟩
  · obtain ⟨t, σ, h1, rfl, h2⟩ := body cdv A outer s H vs Q E hr h
    exact ⟨t, h1, h2⟩
  obtain ⟨oc, od, dV, kV, doc, pm, an, cdv, ct, osl, rfl, lk, hcd, hd, hk⟩ := F.ex
  rcases hd with ⟨_, rfl⟩ | ⟨z, _⟩
  · exact .all fun us hu => hb .none kV doc pm an cdv ct us hu
  · exact absurd rfl z
end
section
variable {X : Cx} {e : Expr} {es : List Expr} {ta tb : TE} {t : TA} {pos p : Pos}
theorem hu64 {k : Nat} (hr : Room k X.A) : X.A.units + 64 < cLine := hr.units
theorem hu65 {k : Nat} (hr : Room k X.A) : X.A.units + 65 < cLine := by
  have := hr.un
  omega
theorem pe_callC {k : Nat} {x : Str} {ps : List Str} {sp : Sp} (C : Cal X.prog X.w X.K X.mg X.base k x ps sp) (hr : Room k X.A) (hg : Gl X x) (ha : PA X (e :: es) t)
    (hdb : (x == ("__debug__" : Str)) = false := by decide) (he : starEach (e :: es) X.env = (false, eval e X.env) :: starEach es X.env := by rfl) (hpl : (backTo pos (starEach es X.env)).any (·.1) = false := by rfl) :
    PE X (.Call (.Name x p) (e :: es) [] pos) (tCall sp [] E0 t) := by
  obtain ⟨f, fd, h1, h2, h3, h4⟩ := C
  exact pe_call h1 hr hg h2 h3 h4 .nil pass0 ha hdb he hpl
theorem pe_call0C {k : Nat} {x : Str} {ps : List Str} {sp : Sp} (C : Cal X.prog X.w X.K X.mg X.base k x ps sp) (hr : Room k X.A) (hg : Gl X x)
    (hdb : (x == ("__debug__" : Str)) = false := by decide) : PE X (.Call (.Name x p) [] [] pos) (tCall sp [] E0 tNil) := by
  obtain ⟨f, fd, h1, h2, h3, h4⟩ := C
  exact pe_call0 h1 hr hg h2 h3 h4 .nil pass0 hdb
/-- a call of a def that may raise: what is wished for it stands at the caller's slots -/
theorem pe_callXC {k : Nat} {x : Str} {ps : List Str} {sp : Sp} {E : L2.St → XK} (C : CalX X.prog X.w X.K X.mg X.base k x ps sp) (hr : Room k X.A) (hg : Gl X x) (hx : ∀ σ, PassesAt (L2.CX X.prog X.w) X σ (E σ)) (ha : PA X (e :: es) t)
    (hdb : (x == ("__debug__" : Str)) = false := by decide) (he : starEach (e :: es) X.env = (false, eval e X.env) :: starEach es X.env := by rfl) (hpl : (backTo pos (starEach es X.env)).any (·.1) = false := by rfl) :
    PE X (.Call (.Name x p) (e :: es) [] pos) (tCallS sp E t) := by
  obtain ⟨f, fd, h1, h2, h3, h4⟩ := C
  exact pe_callS h1 hr hg h2 h3 h4 hx ha hdb he hpl

theorem pe_bty {x : Str} {n : String} (hg : Gl X x) (hm : X.mg x = none) (hv : bootBuiltins x = some (.type n)) (hn : x ≠ "__name__" := by decide) (hd : (x == ("__debug__" : Str)) = false := by decide) : PE X (.Name x pos) (tC (.ty n)) := pe_bltn hg hm hv rfl hn hd
theorem pe_gref {x : Str} {a : Addr} (hg : Gl X x) (hm : X.mg x = some (.ref a)) (hd : (x == ("__debug__" : Str)) = false := by decide) : PE X (.Name x pos) (tC (.ref a)) := pe_glob hg hm rfl hd
theorem pe_gint {x : Str} {i : Int} (hg : Gl X x) (hm : ∃ t, X.mg x = some (.int i t)) (hd : (x == ("__debug__" : Str)) = false := by decide) : PE X (.Name x pos) (tC (.int i)) := by
  obtain ⟨t, h⟩ := hm
  exact pe_glob hg h ⟨t, rfl⟩ hd
theorem pe_gstr {x z : Str} (hg : Gl X x) (hm : ∃ t, X.mg x = some (.str z t)) (hd : (x == ("__debug__" : Str)) = false := by decide) : PE X (.Name x pos) (tC (.str z)) := by
  obtain ⟨t, h⟩ := hm
  exact pe_glob hg h ⟨t, rfl⟩ hd
/-! ### operators of more than one kind -/
def rAddA (K : PySem.W.Frag) : R2 := fun x y H Q => rI0 (fun i j => .int (i + j)) x y H Q ∨ rCat x y H Q ∨ rCatA K x y H Q ∨ ∃ i j, x = .str i ∧ y = .str j ∧ i.length + j.length ≤ sizeLine ∧ Q (.str (i ++ j)) H
theorem op_addA : OpR X (binaryOp .Add) (rAddA X.K) := op_add.or (op_cat.or (op_catA.or op_add_str))
def rMulA (K : PySem.W.Frag) : R2 := fun x y H Q => rI CMul (fun i j => .int (i * j)) x y H Q ∨ rRep x y H Q ∨ rRepT K x y H Q
theorem op_mulA : OpR X (binaryOp .Mult) (rMulA X.K) := op_mul.or (op_rep.or op_repT)
def rEqA (K : PySem.W.Frag) : R2 := fun x y H Q => rEq x y H Q ∨ rEqD K x y H Q
theorem op_eqA (hu : X.A.units + 64 < cLine) : OpR X (compareOp .Eq) (rEqA X.K) := op_eq.or (op_eqD hu)
def rNeA (K : PySem.W.Frag) : R2 := fun x y H Q => rNe x y H Q ∨ rNeD K x y H Q
theorem op_neA (hu : X.A.units + 64 < cLine) : OpR X (compareOp .NotEq) (rNeA X.K) := op_ne.or (op_neD hu)
abbrev rInSgn : R2 := fun x y H Q => ∃ (c : Nat) (z : Str), x = .str ⟨#[c]⟩ ∧ y = .str z ∧ Q (.bl (decide (c ∈ z.cps.toList))) H
abbrev rNiSgn : R2 := fun x y H Q => ∃ (c : Nat) (z : Str), x = .str ⟨#[c]⟩ ∧ y = .str z ∧ Q (.bl (!decide (c ∈ z.cps.toList))) H
def rInA (K : PySem.W.Frag) : R2 := fun x y H Q => rIn K false x y H Q ∨ rInD K x y H Q ∨ rInSgn x y H Q
theorem op_inA (hu : X.A.units + 65 < cLine) : OpR X (compareOp .In) (rInA X.K) := op_in_seq.or ((op_inD hu).or op_in_sign)
def rNiA (K : PySem.W.Frag) : R2 := fun x y H Q => rIn K true x y H Q ∨ rNotInD K x y H Q ∨ rNiSgn x y H Q
theorem op_niA (hu : X.A.units + 65 < cLine) : OpR X (compareOp .NotIn) (rNiA X.K) := op_notIn_seq.or ((op_notInD hu).or op_notIn_sign)
def rIsA : R2 := fun x y H Q => (y = .non ∧ Q (.bl (decide (x = .non))) H) ∨ rIsB x y H Q
theorem op_isA : OpR X (compareOp .Is) rIsA := op_isN.or op_isBl
def rIsntA : R2 := fun x y H Q => (y = .non ∧ Q (.bl (!decide (x = .non))) H) ∨ rNotB x y H Q
theorem op_isnotA : OpR X (compareOp .IsNot) rIsntA := op_notN.or op_notBl
def rSlAny (K : PySem.W.Frag) : V → Option Int → Option Int → Hp → VK → Prop := fun x lo hi H Q => rSlL K x lo hi H Q ∨ rSlA K x lo hi H Q ∨ rSlS x lo hi H Q
theorem sl_anyA : SlR X (rSlAny X.K) := sl_list.or (sl_tupA.or sl_str)
def rPopA : V → List V → Hp → VK → Prop := fun x vs H Q => rPop x vs H Q ∨ rPopAt x vs H Q
theorem mt_popA : MtR X "list.pop" rPopA := MtR.or mt_pop mt_popAt
def rIntA : List V → Hp → VK → Prop := fun xs H Q => (∃ i, xs = [.int i] ∧ Q (.int i) H) ∨ (∃ k, xs = [.bl k] ∧ Q (.int (if k then 1 else 0)) H)
theorem call_intA : CallR X (.type "int") rIntA := call_int1
def rLenA (K : PySem.W.Frag) : List V → Hp → VK → Prop := fun xs H Q => ∃ x n, xs = [x] ∧ LenV K x H n ∧ Q (.int n) H
theorem call_lenA : CallR X (.builtin "len") (rLenA X.K) := call_len
def rListA (K : PySem.W.Frag) : List V → Hp → VK → Prop := fun xs H Q => ∃ p ys, xs = [.ref p] ∧ (SqL K H p ys ∨ SqT K H p ys) ∧ ∀ l, H l = none → Q (.ref l) (upd H l (.lst ys))
theorem call_listA : CallR X (.type "list") (rListA X.K) := call_list_of
def rTupA (K : PySem.W.Frag) : List V → Hp → VK → Prop := fun xs H Q => ∃ p ys, xs = [.ref p] ∧ ((SqL K H p ys ∧ ∀ l, H l = none → Q (.ref l) (upd H l (.tup ys))) ∨ (SqT K H p ys ∧ Q (.ref p) H))
theorem call_tupA : CallR X (.type "tuple") (rTupA X.K) := call_tuple_of
def rJoinA (K : PySem.W.Frag) : V → List V → Hp → VK → Prop := fun x xs H Q => ∃ a p, ∃ ys : List Str, x = .str a ∧ xs = [.ref p] ∧ (SqL K H p (ys.map V.str) ∨ SqT K H p (ys.map V.str)) ∧ (ys.map (·.length)).sum + ys.length * a.length ≤ 16777216 ∧ Q (.str (Txt.join a ys)) H
theorem pe_joinA {o : Expr} {to : TE} {apos : Pos} (ho : PE X o to) (he : PE X e ta) (hs : starEach [e] X.env = [(false, eval e X.env)] := by rfl) (hbase : attributeBase o "join" X.env (eval o X.env) = eval o X.env := by rfl) (hline : (apos.endLine == pos.line) = true := by rfl) :
    PE X (.Call (.Attribute o "join" apos) [e] [] pos) (tM1 (rJoinA X.K) to ta) := pe_join ho he hs hbase hline
/-! ### a statement, then the rest, with a word between them -/
abbrev tCut : TS → TS → TS := C8.tCut
theorem pss_cut {st : Stmt} {rest : List Stmt} {t u : TS} (h1 : PS X st t) (h2 : PSs X rest u) : PSs X (st :: rest) (tCut t u) := C8.pss_cut h1 h2
/-! ### what a for walks: a list, a tuple, a text -/
theorem pi_or {tg it : Expr} {w1 w2 : TI} (h1 : PI X tg it w1) (h2 : PI X tg it w2) : PI X tg it (fun σ H R => w1 σ H R ∨ w2 σ H R) := ⟨fun pins s σ H R I h => by
  rcases h with h | h
  · exact h1.run pins s σ H R I h
  · exact h2.run pins s σ H R I h⟩
def iSeqA (K : PySem.W.Frag) (te : TE) : TI := fun σ H R => iList K te σ H R ∨ iTup K te σ H R ∨ iStr te σ H R
theorem pi_seqA {tg : Expr} (he : PE X e ta) : PI X tg e (iSeqA X.K ta) := pi_or (pi_list he) (pi_or (pi_tup he) (pi_str he))
end
end Cw

set_option maxHeartbeats 4000000
namespace Cw
open PySem PySem.Spec PyProof.Rows L2
/-! ### readings, one step each -/
section
variable {K : PySem.W.Frag} {σ : L2.St} {G H : Hp} {Q : VK} {D : Ends} {ta tb tc : TE} {t u : TS} {c c2 : TT} {x y v : V} {i j n : Int} {r : R2}
theorem q_seq (h : t { D with nx := u D } σ H) : tSeq t u D σ H := h
theorem q_asg {k : Nat} (h : ta σ H fun x H1 => D.nx (σ.set k (some x)) H1) : tAsg ta (gName k) D σ H := h
theorem q_asgG {g : TG} (h : ta σ H fun x H1 => g x σ H1 D.nx) : tAsg ta g D σ H := h
theorem q_sub {s : TSet} {R : L2.St → Hp → Prop} (h : ta σ H fun o H1 => tb σ H1 fun i H2 => s o i v H2 fun H3 => R σ H3) : gSub ta tb s v σ H R := h
theorem q_ret (h : ta σ H D.rt) : tRet ta D σ H := h
theorem q_retN (h : D.rt .non H) : tRetN D σ H := h
theorem q_drop (h : ta σ H fun _ H1 => D.nx σ H1) : tDrop ta D σ H := h
theorem q_next (h : D.nx σ H) : tNext D σ H := h
theorem q_ifs (h : c σ H fun b H1 => if b = true then t D σ H1 else u D σ H1) : tIfS c t u D σ H := h
theorem q_op (h : ta σ H fun x H1 => tb σ H1 fun y H2 => r x y H2 Q) : tOp r ta tb σ H Q := h
theorem q_un {r : V → Hp → VK → Prop} (h : ta σ H fun x H1 => r x H1 Q) : tUn r ta σ H Q := h
theorem q_var {k : Nat} (h : σ[k]? = some (some v)) (q : Q v H) : tVar k σ H Q := ⟨v, h, q⟩
theorem q_c (q : Q v H) : tC v σ H Q := q
theorem q_nil {Q : List V → Hp → Prop} (q : Q [] H) : tNil σ H Q := q
theorem q_cons {ts : TA} {Q : List V → Hp → Prop} (h : ta σ H fun x H1 => ts σ H1 fun xs H2 => Q (x :: xs) H2) : tCons ta ts σ H Q := h
theorem q_cb {ts : TA} {r : List V → Hp → VK → Prop} (h : ts σ H fun vs H1 => r vs H1 Q) : tCB r ts σ H Q := h
theorem q_call {ts : TA} {sp : Sp} {E : XK} (h : ts σ H fun vs H1 => sp (vs ++ []) H1 Q E) : tCall sp [] E ts σ H Q := h
theorem q_test {Q : Bool → Hp → Prop} (h : ta σ H fun x H1 => ∃ k, x = .bl k ∧ Q k H1) : tTest ta σ H Q := h
theorem q_B {Q : Bool → Hp → Prop} (h : ta σ H fun x H1 => ∃ k, x = .bl k ∧ Q k H1) : tB ta σ H Q := h
theorem q_bl {b : Bool} {Q : Bool → Hp → Prop} (h : Q b H) : ∃ k, V.bl b = .bl k ∧ Q k H := ⟨b, rfl, h⟩
theorem q_and {Q : Bool → Hp → Prop} (h : c σ H fun b H1 => if b = true then c2 σ H1 Q else Q false H1) : tAnd c c2 σ H Q := h
theorem q_or {Q : Bool → Hp → Prop} (h : c σ H fun b H1 => if b = true then Q true H1 else c2 σ H1 Q) : tOr c c2 σ H Q := h
theorem q_not {Q : Bool → Hp → Prop} (h : c σ H fun b H1 => Q (!b) H1) : tNot c σ H Q := h
theorem q_andV (h : ta σ H fun x H1 => ∃ c, x = .bl c ∧ if c = true then tb σ H1 Q else Q (.bl false) H1) : tAndV ta tb σ H Q := h
theorem q_orV (h : ta σ H fun x H1 => ∃ c, x = .bl c ∧ if c = true then Q (.bl true) H1 else tb σ H1 Q) : tOrV ta tb σ H Q := h
theorem q_notV (h : ta σ H fun x H1 => ∃ c, x = .bl c ∧ Q (.bl (!c)) H1) : tNotV ta σ H Q := h
theorem q_ife (h : c σ H fun b H1 => if b = true then ta σ H1 Q else tb σ H1 Q) : tIf c ta tb σ H Q := h
theorem q_blI {b : Bool} {R : Bool → Prop} (h : R b) : ∃ k, V.bl b = .bl k ∧ R k := ⟨b, rfl, h⟩
theorem q_tup {ts : TA} (h : ts σ H fun xs H1 => xs.length ≤ sizeLine ∧ ∀ p, H1 p = none → Q (.ref p) (upd H1 p (.tup xs))) : tTup ts σ H Q := h
theorem q_lst {ts : TA} (h : ts σ H fun xs H1 => xs.length ≤ sizeLine ∧ ∀ p, H1 p = none → Q (.ref p) (upd H1 p (.lst xs))) : tLst ts σ H Q := h
theorem q_sl {r : V → Option Int → Option Int → Hp → VK → Prop} {tl th : TO} (h : ta σ H fun x H1 => tl σ H1 fun l H2 => th σ H2 fun u H3 => r x l u H3 Q) : tSl r ta tl th σ H Q := h
theorem q_no {Q : Option Int → Hp → Prop} (h : Q none H) : tNoPart σ H Q := h
theorem q_part {Q : Option Int → Hp → Prop} (h : ta σ H fun x H1 => ∃ i, x = .int i ∧ Q (some i) H1) : tPart ta σ H Q := h
theorem q_some {Q : Option Int → Hp → Prop} (h : Q (some i) H) : ∃ k, V.int i = .int k ∧ Q (some k) H := ⟨i, rfl, h⟩
theorem q_cut {M : L2.St → Hp → Prop} (h : t { D with nx := M } σ H) (k : ∀ σ' H', M σ' H' → u D σ' H') : tCut t u D σ H := ⟨M, h, k⟩
/-! operators -/
theorem q_add (q : Q (.int (i + j)) H) : rAddA K (.int i) (.int j) H Q := .inl ⟨i, j, rfl, rfl, q⟩
theorem q_sub2 (q : Q (.int (i - j)) H) : rI0 (fun i j => .int (i - j)) (.int i) (.int j) H Q := ⟨i, j, rfl, rfl, q⟩
theorem q_mul (h : (-(2 ^ 64) < i ∧ i < 2 ^ 64) ∨ (-(2 ^ 64) < j ∧ j < 2 ^ 64)) (q : Q (.int (i * j)) H) : rMulA K (.int i) (.int j) H Q := .inl ⟨i, j, rfl, rfl, h, q⟩
theorem q_mod (h : 0 < j) (q : Q (.int (i % j)) H) : rI (fun _ j => 0 < j) (fun i j => .int (i % j)) (.int i) (.int j) H Q := ⟨i, j, rfl, rfl, h, q⟩
theorem q_fdiv (h : 0 < j ∧ j < 1073741824) (q : Q (.int (i / j)) H) : rI CDiv (fun i j => .int (i / j)) (.int i) (.int j) H Q := ⟨i, j, rfl, rfl, h, q⟩
theorem q_pow (h : CPow i j) (q : Q (.int (i ^ j.toNat)) H) : rI CPow (fun i j => .int (i ^ j.toNat)) (.int i) (.int j) H Q := ⟨i, j, rfl, rfl, h, q⟩
theorem q_neg (q : Q (.int (-i)) H) : rU (fun i => .int (-i)) (.int i) H Q := ⟨i, rfl, q⟩
theorem q_int (q : Q (.int i) H) : rIntA [.int i] H Q := .inl ⟨i, rfl, q⟩
theorem q_intB {b : Bool} (q : Q (.int (if b then 1 else 0)) H) : rIntA [.bl b] H Q := .inr ⟨b, rfl, q⟩
theorem q_lt (q : Q (.bl (decide (i < j))) H) : rI0 (fun i j => .bl (decide (i < j))) (.int i) (.int j) H Q := ⟨i, j, rfl, rfl, q⟩
theorem q_le (q : Q (.bl (decide (i ≤ j))) H) : rI0 (fun i j => .bl (decide (i ≤ j))) (.int i) (.int j) H Q := ⟨i, j, rfl, rfl, q⟩
theorem q_gt (q : Q (.bl (decide (j < i))) H) : rI0 (fun i j => .bl (decide (j < i))) (.int i) (.int j) H Q := ⟨i, j, rfl, rfl, q⟩
theorem q_ge (q : Q (.bl (decide (j ≤ i))) H) : rI0 (fun i j => .bl (decide (j ≤ i))) (.int i) (.int j) H Q := ⟨i, j, rfl, rfl, q⟩
theorem dec_i : decide (V.int i = V.int j) = decide (i = j) := by
  rw [Bool.eq_iff_iff]
  simp
theorem dec_s {a b : Str} : decide (V.str a = V.str b) = decide (a = b) := by
  rw [Bool.eq_iff_iff]
  simp
theorem dec_b {a b : Bool} : decide (V.bl a = V.bl b) = decide (a = b) := by
  rw [Bool.eq_iff_iff]
  simp
theorem q_eqI (q : Q (.bl (decide (i = j))) H) : rEqA K (.int i) (.int j) H Q := .inl ⟨rfl, by rw [dec_i]; exact q⟩
theorem q_neI (q : Q (.bl (!decide (i = j))) H) : rNeA K (.int i) (.int j) H Q := .inl ⟨rfl, by rw [dec_i]; exact q⟩
theorem q_eqS {a b : Str} (q : Q (.bl (decide (a = b))) H) : rEqA K (.str a) (.str b) H Q := .inl ⟨rfl, by rw [dec_s]; exact q⟩
theorem q_neS {a b : Str} (q : Q (.bl (!decide (a = b))) H) : rNeA K (.str a) (.str b) H Q := .inl ⟨rfl, by rw [dec_s]; exact q⟩
theorem q_eqB {a b : Bool} (q : Q (.bl (decide (a = b))) H) : rEqA K (.bl a) (.bl b) H Q := .inl ⟨rfl, by rw [dec_b]; exact q⟩
theorem q_neB {a b : Bool} (q : Q (.bl (!decide (a = b))) H) : rNeA K (.bl a) (.bl b) H Q := .inl ⟨rfl, by rw [dec_b]; exact q⟩
theorem q_isN (q : Q (.bl (decide (x = .non))) H) : rIsA x .non H Q := .inl ⟨rfl, q⟩
theorem q_isntN (q : Q (.bl (!decide (x = .non))) H) : rIsntA x .non H Q := .inl ⟨rfl, q⟩
theorem q_isB {a b : Bool} (q : Q (.bl (decide (a = b))) H) : rIsA (.bl a) (.bl b) H Q := .inr ⟨a, b, rfl, rfl, q⟩
/-! an item -/
theorem q_ixL {a : Addr} {xs : List V} (h : SqL K H a xs) (e : atI xs i = some v) (q : Q v H) : rIx K (.ref a) (.int i) H Q := .inl ⟨a, xs, i, v, rfl, rfl, h, e, q⟩
theorem q_ixC {a : Addr} {xs : List V} (h : H a = some (.lst xs)) (e : atI xs i = some v) (q : Q v H) : rIx K (.ref a) (.int i) H Q := q_ixL (.inl (.inl h)) e q
theorem q_ixT {a : Addr} {xs : List V} (h : SqT K H a xs) (e : atI xs i = some v) (q : Q v H) : rIx K (.ref a) (.int i) H Q := .inr (.inl ⟨a, xs, i, v, rfl, rfl, h, e, q⟩)
theorem q_set {a : Addr} {xs : List V} {k : Nat} {R : Hp → Prop} (h : H a = some (.lst xs)) (e : ixN xs.length i = some k) (q : R (upd H a (.lst (xs.set k v)))) : rSetL (.ref a) (.int i) v H R := ⟨a, xs, i, k, rfl, rfl, h, e, q⟩
theorem q_lenC {a : Addr} {xs : List V} (h : SqL K H a xs) (q : Q (.int (xs.length : Nat)) H) : rLenA K [.ref a] H Q := ⟨_, _, rfl, .inl ⟨xs, h, rfl⟩, q⟩
theorem q_lenT {a : Addr} {xs : List V} (h : SqT K H a xs) (q : Q (.int (xs.length : Nat)) H) : rLenA K [.ref a] H Q := ⟨_, _, rfl, .inr ⟨xs, h, rfl⟩, q⟩
theorem q_lenS {z : Str} (h : z.length ≤ sizeLine) (q : Q (.int (z.length : Nat)) H) : rLenA K [.str z] H Q := ⟨_, _, rfl, ⟨h, rfl⟩, q⟩
/-! branches -/
theorem q_ift {A B : Prop} (h : A) : if true = true then A else B := iteT h
theorem q_iff {A B : Prop} (h : B) : if false = true then A else B := iteF h
theorem q_ifd {p A B : Prop} [Decidable p] (h1 : p → A) (h2 : ¬ p → B) : if decide p = true then A else B := by
  by_cases h : p
  · rw [if_pos (decide_eq_true h)]
    exact h1 h
  · rw [if_neg (by rw [decide_eq_false h]; decide)]
    exact h2 h
theorem q_ifnd {p A B : Prop} [Decidable p] (h1 : ¬ p → A) (h2 : p → B) : if (!decide p) = true then A else B := by
  by_cases h : p
  · rw [if_neg (by rw [decide_eq_true h]; decide)]
    exact h2 h
  · rw [if_pos (by rw [decide_eq_false h]; decide)]
    exact h1 h
theorem q_ifb {b : Bool} {A B : Prop} (h1 : b = true → A) (h2 : b = false → B) : if b = true then A else B := by
  cases b with
  | true => exact iteT (h1 rfl)
  | false => exact iteF (h2 rfl)
theorem upd_id {a : Addr} {o : HO} (h : H a = some o) : upd H a o = H := by
  funext b
  by_cases e : b = a
  · subst e
    rw [upd_same, h]
  · rw [upd_ne e]
theorem q_setU {a : Addr} {xs : List V} {k : Nat} {R : Hp → Prop} (e : ixN xs.length i = some k) (q : R (upd H a (.lst (xs.set k v)))) : rSetL (.ref a) (.int i) v (upd H a (.lst xs)) R := q_set upd_same e (by rw [upd_upd]; exact q)
theorem q_ixU {a : Addr} {xs : List V} (e : atI xs i = some v) (q : Q v (upd H a (.lst xs))) : rIx K (.ref a) (.int i) (upd H a (.lst xs)) Q := q_ixC upd_same e q
theorem q_ixInts {a : Addr} {ns : List Int} (h : SqL K H a (ns.map V.int)) (h0 : 0 ≤ i) (h1 : i < ns.length) (q : ∀ n : Int, n ∈ ns → Q (.int n) H) : rIx K (.ref a) (.int i) H Q := by
  obtain ⟨k, rfl⟩ := Int.eq_ofNat_of_zero_le h0
  have hk : k < ns.length := by omega
  exact q_ixL h (atI_nat (v := .int ns[k]) (by rw [List.getElem?_map, List.getElem?_eq_getElem hk] <;> rfl)) (q _ (List.getElem_mem hk))
end
theorem cxK {CXX : CXT} {P : Program} {w : World} {K : PySem.W.Frag} {mg : Str → Option Value} {base : Heap} {N : List Str} {q : Str} {sc : Scope} {f : Addr} {cd : Value} {A : Around} {o : List Env} {s : Shared} {H : Hp} {E : XK} : (cxOf CXX P w K mg base N q sc f cd A o s H E).nox.K = K := rfl
theorem cxK2 {CXX : CXT} {P : Program} {w : World} {K : PySem.W.Frag} {mg : Str → Option Value} {base : Heap} {N : List Str} {q : Str} {sc : Scope} {f : Addr} {cd : Value} {A : Around} {o : List Env} {s : Shared} {H : Hp} {E : XK} : (cxOf CXX P w K mg base N q sc f cd A o s H E).K = K := rfl
end Cw

set_option maxHeartbeats 4000000
namespace Cw
open PySem PySem.Spec PyProof.Rows L2
/-! ### isinstance of data -/
def tyN : PyData → String
  | .none => "NoneType"
  | .bool _ => "bool"
  | .int _ => "int"
  | .str _ => "str"
  | .list _ => "list"
  | .tuple _ => "tuple"
  | .dict _ => "dict"
theorem tyx_l {K : PySem.W.Frag} {H : Hp} {a : Addr} {xs : List V} (h : SqL K H a xs) : TyX K H (.ref a) (.type "list") := by
  rcases h with (h | ⟨o, h⟩) | ⟨o, its, n, h1, h2, h3⟩
  · exact .base (.lst h)
  · exact .base (.frz h)
  · exact .kList h1 h2
theorem tyx_t {K : PySem.W.Frag} {H : Hp} {a : Addr} {xs : List V} (h : SqT K H a xs) : TyX K H (.ref a) (.type "tuple") := by
  rcases h with (h | ⟨o, h⟩) | ⟨o, its, n, h1, h2, h3⟩
  · exact .base (.tup h)
  · exact .fTuple h
  · exact .kTuple h1 h2
theorem tyx_of {K : PySem.W.Frag} {G H : Hp} (e : Ex G H) {v : V} {d : PyData} (h : Rp K G v d) : TyX K H v (.type (tyN d)) := by
  cases h with
  | non => exact .base .non
  | bl b => exact .base (.bl b)
  | int i => exact .base (.int i)
  | str x => exact .base (.str x)
  | lst h _ => exact .base (.lst (e _ _ h))
  | tup h _ => exact tyx_t (e.st h)
def dInt : PyData → Bool
  | .int _ => true
  | .bool _ => true
  | _ => false
def dBool : PyData → Bool
  | .bool _ => true
  | _ => false
def dStr : PyData → Bool
  | .str _ => true
  | _ => false
def dLst : PyData → Bool
  | .list _ => true
  | _ => false
def dTup : PyData → Bool
  | .tuple _ => true
  | _ => false
def dSeq : PyData → Bool
  | .tuple _ => true
  | .list _ => true
  | _ => false
def isN (a n : String) : Bool := a == n || (a == "bool" && n == "int")
abbrev isI (d : PyData) (n : String) : Bool := isN (tyN d) n
theorem kitB_isI (d : PyData) {n : String} (hn : n = "int" ∨ n = "bool" ∨ n = "str" ∨ n = "list" ∨ n = "tuple") : kitB (tyN d) n = some (isI d n) := by
  have key : ∀ a ∈ ["NoneType", "bool", "int", "str", "list", "tuple", "dict"], ∀ n ∈ ["int", "bool", "str", "list", "tuple"], kitB a n = some (isN a n) := by decide +kernel
  refine key _ ?_ n ?_
  · cases d <;> simp [tyN]
  · rcases hn with rfl | rfl | rfl | rfl | rfl <;> simp
section
variable {K : PySem.W.Frag} {G H : Hp} {Q : VK} {v : V} {d : PyData}
theorem q_isi {n : String} (h : Rp K G v d) (e : Ex G H) (hn : n = "int" ∨ n = "bool" ∨ n = "str" ∨ n = "list" ∨ n = "tuple") (q : Q (.bl (isI d n)) H) : rIsi K [v, .ty n] H Q :=
  ⟨v, .ty n, _, .type n, _, rfl, .ty n, tyx_of e h, kit_ty (kitB_isI d hn), q⟩
theorem q_isi2 {n m : String} {p : Addr} (h : Rp K G v d) (e : Ex G H) (hp : H p = some (.tup [.ty n, .ty m])) (hn : n = "int" ∨ n = "bool" ∨ n = "str" ∨ n = "list" ∨ n = "tuple") (hm : m = "int" ∨ m = "bool" ∨ m = "str" ∨ m = "list" ∨ m = "tuple")
    (q : Q (.bl (isI d n || isI d m)) H) : rIsiT K [v, .ref p] H Q := by
  refine ⟨v, p, _, _, [.type n, .type m], _, rfl, hp, .cons (.ty n) (.cons (.ty m) .nil), tyx_of e h, ?_, q⟩
  have h1 : PySem.W.kitOne K (.type (tyN d)) (.type n) = some (isI d n) := kit_ty (kitB_isI d hn)
  have h2 : PySem.W.kitOne K (.type (tyN d)) (.type m) = some (isI d m) := kit_ty (kitB_isI d hm)
  unfold PySem.W.kitAny
  rw [h1]
  cases isI d n with
  | true => rfl
  | false =>
    unfold PySem.W.kitAny
    rw [h2]
    cases isI d m <;> rfl
theorem q_isiInt (h : Rp K G v d) (e : Ex G H) (q : Q (.bl (dInt d)) H) : rIsi K [v, .ty "int"] H Q :=
  q_isi h e (by simp) (by cases d <;> exact q)
theorem q_isiBool (h : Rp K G v d) (e : Ex G H) (q : Q (.bl (dBool d)) H) : rIsi K [v, .ty "bool"] H Q :=
  q_isi h e (by simp) (by cases d <;> exact q)
theorem q_isiStr (h : Rp K G v d) (e : Ex G H) (q : Q (.bl (dStr d)) H) : rIsi K [v, .ty "str"] H Q :=
  q_isi h e (by simp) (by cases d <;> exact q)
theorem q_isiLst (h : Rp K G v d) (e : Ex G H) (q : Q (.bl (dLst d)) H) : rIsi K [v, .ty "list"] H Q :=
  q_isi h e (by simp) (by cases d <;> exact q)
theorem q_isiTup (h : Rp K G v d) (e : Ex G H) (q : Q (.bl (dTup d)) H) : rIsi K [v, .ty "tuple"] H Q :=
  q_isi h e (by simp) (by cases d <;> exact q)
theorem q_isiTL {p : Addr} (h : Rp K G v d) (e : Ex G H) (hp : H p = some (.tup [.ty "tuple", .ty "list"])) (q : Q (.bl (dSeq d)) H) : rIsiT K [v, .ref p] H Q :=
  q_isi2 h e hp (by simp) (by simp) (by cases d <;> exact q)
theorem q_isiLT {p : Addr} (h : Rp K G v d) (e : Ex G H) (hp : H p = some (.tup [.ty "list", .ty "tuple"])) (q : Q (.bl (dSeq d)) H) : rIsiT K [v, .ref p] H Q :=
  q_isi2 h e hp (by simp) (by simp) (by cases d <;> exact q)
theorem q_iNonInt (q : Q (.bl false) H) : rIsi K [.non, .ty "int"] H Q := q_isiInt (Rp.non (K := K) (G := H)) (Ex.refl H) q
theorem q_iNonBool (q : Q (.bl false) H) : rIsi K [.non, .ty "bool"] H Q := q_isiBool (Rp.non (K := K) (G := H)) (Ex.refl H) q
theorem q_iNonStr (q : Q (.bl false) H) : rIsi K [.non, .ty "str"] H Q := q_isiStr (Rp.non (K := K) (G := H)) (Ex.refl H) q
theorem q_iNonLst (q : Q (.bl false) H) : rIsi K [.non, .ty "list"] H Q := q_isiLst (Rp.non (K := K) (G := H)) (Ex.refl H) q
theorem q_iNonTup (q : Q (.bl false) H) : rIsi K [.non, .ty "tuple"] H Q := q_isiTup (Rp.non (K := K) (G := H)) (Ex.refl H) q
theorem q_iBlInt {b : Bool} (q : Q (.bl true) H) : rIsi K [.bl b, .ty "int"] H Q := q_isiInt (Rp.bl (K := K) (G := H) b) (Ex.refl H) q
theorem q_iBlBool {b : Bool} (q : Q (.bl true) H) : rIsi K [.bl b, .ty "bool"] H Q := q_isiBool (Rp.bl (K := K) (G := H) b) (Ex.refl H) q
theorem q_iBlStr {b : Bool} (q : Q (.bl false) H) : rIsi K [.bl b, .ty "str"] H Q := q_isiStr (Rp.bl (K := K) (G := H) b) (Ex.refl H) q
theorem q_iBlLst {b : Bool} (q : Q (.bl false) H) : rIsi K [.bl b, .ty "list"] H Q := q_isiLst (Rp.bl (K := K) (G := H) b) (Ex.refl H) q
theorem q_iBlTup {b : Bool} (q : Q (.bl false) H) : rIsi K [.bl b, .ty "tuple"] H Q := q_isiTup (Rp.bl (K := K) (G := H) b) (Ex.refl H) q
theorem q_iInInt {i : Int} (q : Q (.bl true) H) : rIsi K [.int i, .ty "int"] H Q := q_isiInt (Rp.int (K := K) (G := H) i) (Ex.refl H) q
theorem q_iInBool {i : Int} (q : Q (.bl false) H) : rIsi K [.int i, .ty "bool"] H Q := q_isiBool (Rp.int (K := K) (G := H) i) (Ex.refl H) q
theorem q_iInStr {i : Int} (q : Q (.bl false) H) : rIsi K [.int i, .ty "str"] H Q := q_isiStr (Rp.int (K := K) (G := H) i) (Ex.refl H) q
theorem q_iInLst {i : Int} (q : Q (.bl false) H) : rIsi K [.int i, .ty "list"] H Q := q_isiLst (Rp.int (K := K) (G := H) i) (Ex.refl H) q
theorem q_iInTup {i : Int} (q : Q (.bl false) H) : rIsi K [.int i, .ty "tuple"] H Q := q_isiTup (Rp.int (K := K) (G := H) i) (Ex.refl H) q
theorem q_iStInt {x : Str} (q : Q (.bl false) H) : rIsi K [.str x, .ty "int"] H Q := q_isiInt (Rp.str (K := K) (G := H) x) (Ex.refl H) q
theorem q_iStBool {x : Str} (q : Q (.bl false) H) : rIsi K [.str x, .ty "bool"] H Q := q_isiBool (Rp.str (K := K) (G := H) x) (Ex.refl H) q
theorem q_iStStr {x : Str} (q : Q (.bl true) H) : rIsi K [.str x, .ty "str"] H Q := q_isiStr (Rp.str (K := K) (G := H) x) (Ex.refl H) q
theorem q_iStLst {x : Str} (q : Q (.bl false) H) : rIsi K [.str x, .ty "list"] H Q := q_isiLst (Rp.str (K := K) (G := H) x) (Ex.refl H) q
theorem q_iStTup {x : Str} (q : Q (.bl false) H) : rIsi K [.str x, .ty "tuple"] H Q := q_isiTup (Rp.str (K := K) (G := H) x) (Ex.refl H) q
theorem line_of {n : Nat} (h : Nat.ble n 100000 = true) : n ≤ sizeLine := Nat.le_trans (Nat.le_of_ble_eq_true h) (by decide)
theorem q_ifTr {b : Bool} {A B : Prop} (h : b = true) (a : A) : if b = true then A else B := by
  rw [if_pos h]
  exact a
theorem q_ifFa {b : Bool} {A B : Prop} (h : b = false) (a : B) : if b = true then A else B := by
  rw [if_neg (by rw [h]; decide)]
  exact a
theorem q_ifdT {p A B : Prop} [Decidable p] (h : p) (a : A) : if decide p = true then A else B := by
  rw [if_pos (decide_eq_true h)]
  exact a
theorem q_ifdF {p A B : Prop} [Decidable p] (h : ¬ p) (b : B) : if decide p = true then A else B := by
  rw [if_neg (by rw [decide_eq_false h]; decide)]
  exact b
theorem q_ifndT {p A B : Prop} [Decidable p] (h : ¬ p) (a : A) : if (!decide p) = true then A else B := by
  rw [if_pos (by rw [decide_eq_false h]; decide)]
  exact a
theorem q_ifndF {p A B : Prop} [Decidable p] (h : p) (b : B) : if (!decide p) = true then A else B := by
  rw [if_neg (by rw [decide_eq_true h]; decide)]
  exact b
end
/-! ### data of less than n levels, none too wide -/
def Sm : Nat → PyData → Prop
  | 0, _ => False
  | n + 1, .list ds => ds.length ≤ 1000000 ∧ ∀ d ∈ ds, Sm n d
  | n + 1, .tuple ds => ds.length ≤ 1000000 ∧ ∀ d ∈ ds, Sm n d
  | _ + 1, .dict _ => False
  | _ + 1, _ => True
/-! ### data read -/
section
variable {K : PySem.W.Frag} {G H : Hp} {Q : VK} {v : V} {d : PyData} {ds : List PyData} {i : Int}
theorem Rps.atI {vs : List V} (h : Rps K G vs ds) (e : atI ds i = some d) : ∃ v, L2.atI vs i = some v ∧ Rp K G v d := by
  unfold L2.atI at e ⊢
  rw [h.len]
  cases q : ixN ds.length i with
  | none =>
    rw [q] at e
    cases e
  | some k =>
    rw [q] at e
    exact h.get e
theorem q_lenRL (h : Rp K G v (.list ds)) (e : Ex G H) (q : Q (.int (ds.length : Nat)) H) : rLenA K [v] H Q := by
  obtain ⟨a, vs, rfl, hS, hv⟩ := rp_lst h
  refine q_lenC (.inl (.inl (e _ _ hS))) ?_
  rw [hv.len]
  exact q
theorem q_lenRT (h : Rp K G v (.tuple ds)) (e : Ex G H) (q : Q (.int (ds.length : Nat)) H) : rLenA K [v] H Q := by
  obtain ⟨a, vs, rfl, hS, hv⟩ := rp_tup h
  refine q_lenT (e.st hS) ?_
  rw [hv.len]
  exact q
theorem q_ixRL (h : Rp K G v (.list ds)) (e : Ex G H) (hd : atI ds i = some d) (q : ∀ u, Rp K G u d → Q u H) : rIx K v (.int i) H Q := by
  obtain ⟨a, vs, rfl, hS, hv⟩ := rp_lst h
  obtain ⟨u, h1, h2⟩ := hv.atI hd
  exact q_ixL (.inl (.inl (e _ _ hS))) h1 (q u h2)
theorem q_ixRT (h : Rp K G v (.tuple ds)) (e : Ex G H) (hd : atI ds i = some d) (q : ∀ u, Rp K G u d → Q u H) : rIx K v (.int i) H Q := by
  obtain ⟨a, vs, rfl, hS, hv⟩ := rp_tup h
  obtain ⟨u, h1, h2⟩ := hv.atI hd
  exact q_ixT (e.st hS) h1 (q u h2)
theorem q_bt {b : Bool} (h : b = true) (q : Q (.bl true) H) : Q (.bl b) H := by
  rw [h]
  exact q
theorem q_bf {b : Bool} (h : b = false) (q : Q (.bl false) H) : Q (.bl b) H := by
  rw [h]
  exact q
theorem atI_at {ds : List PyData} {k : Nat} (h : k < ds.length) : atI ds (k : Int) = some ds[k] := atI_nat (List.getElem?_eq_getElem h)
theorem Ex.sLr {a : Addr} {xs : List V} (e : Ex G H) (h : G a = some (.lst xs)) : SqL K H a xs := .inl (.inl (e _ _ h))
end
/-! ### loops -/
section
variable {K : PySem.W.Frag} {σ : L2.St} {G H : Hp} {Q : VK} {D : Ends} {ta tb tc : TE} {t u : TS} {g : TG}
/-- what a walk over a range asks, its ends known -/
def kRng1 (g : TG) (t : TS) (D : Ends) (σ : L2.St) : List V → Hp → Prop := fun vs H1 => ∃ j : Int, vs = [.int j] ∧ -(2 ^ 62) ≤ j ∧ j < 2 ^ 62 ∧ ∃ W : Nat → Nat → L2.St → Hp → Prop, (∃ m, W 0 m σ H1) ∧ ∀ i m σ H, W i m σ H →
      ((Itr 0 j.toNat).stop i H ∧ D.nx σ H) ∨ ((Itr 0 j.toNat).go i H ∧ ∃ N : L2.St → Hp → Prop, (∀ σ' H', N σ' H' → ∃ m', m' < m ∧ W (i + 1) m' σ' H') ∧ ∀ x H', (Itr 0 j.toNat).yld i H x H' → g x σ H' fun σ2 H2 => t { D with nx := N, ct := N, bk := D.nx } σ2 H2)
theorem q_forR1 {ta : TA} (h : ta σ H (kRng1 g t D σ)) : tFor (iRng1 ta) g t D σ H := h
theorem q_rng1 (n : Nat) (hn : n ≤ 1000000) (Pv : Nat → L2.St → Hp → Prop) (h0 : Pv 0 σ H) (hs : ∀ i σ' H', i < n → Pv i σ' H' → g (.int i) σ' H' fun σ2 H2 => t { D with nx := Pv (i + 1), ct := Pv (i + 1), bk := D.nx } σ2 H2)
    (hd : ∀ σ' H', Pv n σ' H' → D.nx σ' H') : kRng1 g t D σ [.int (n : Nat)] H := by
  refine ⟨n, rfl, by omega, by omega, ?_⟩
  rw [Int.toNat_natCast]
  refine for_range (n := n) Pv h0 (fun i σ' H' hi p => ?_) hd
  rw [Int.zero_add]
  exact hs i σ' H' hi p
/-- .. over a list, a tuple -/
def kLst (K : PySem.W.Frag) (g : TG) (t : TS) (D : Ends) (σ : L2.St) : V → Hp → Prop := fun x H1 => ∃ a, x = .ref a ∧ (∃ xs, SqL K H1 a xs) ∧ ∃ W : Nat → Nat → L2.St → Hp → Prop, (∃ m, W 0 m σ H1) ∧ ∀ i m σ H, W i m σ H →
      ((Itl K a).stop i H ∧ D.nx σ H) ∨ ((Itl K a).go i H ∧ ∃ N : L2.St → Hp → Prop, (∀ σ' H', N σ' H' → ∃ m', m' < m ∧ W (i + 1) m' σ' H') ∧ ∀ x H', (Itl K a).yld i H x H' → g x σ H' fun σ2 H2 => t { D with nx := N, ct := N, bk := D.nx } σ2 H2)
def kTup (K : PySem.W.Frag) (g : TG) (t : TS) (D : Ends) (σ : L2.St) : V → Hp → Prop := fun x H1 => ∃ a, x = .ref a ∧ (∃ xs, SqT K H1 a xs) ∧ ∃ W : Nat → Nat → L2.St → Hp → Prop, (∃ m, W 0 m σ H1) ∧ ∀ i m σ H, W i m σ H →
      ((Itt K a).stop i H ∧ D.nx σ H) ∨ ((Itt K a).go i H ∧ ∃ N : L2.St → Hp → Prop, (∀ σ' H', N σ' H' → ∃ m', m' < m ∧ W (i + 1) m' σ' H') ∧ ∀ x H', (Itt K a).yld i H x H' → g x σ H' fun σ2 H2 => t { D with nx := N, ct := N, bk := D.nx } σ2 H2)
theorem q_forL (h : ta σ H (kLst K g t D σ)) : tFor (iSeqA K ta) g t D σ H := .inl h
theorem q_forT (h : ta σ H (kTup K g t D σ)) : tFor (iSeqA K ta) g t D σ H := .inr (.inl h)
theorem q_lst_for {a : Addr} {xs : List V} (hx : SqL K H a xs) (Pv : Nat → L2.St → Hp → Prop) (h0 : Pv 0 σ H) (hl : ∀ i σ' H', i ≤ xs.length → Pv i σ' H' → SqL K H' a xs)
    (hs : ∀ i x σ' H', xs[i]? = some x → Pv i σ' H' → g x σ' H' fun σ2 H2 => t { D with nx := Pv (i + 1), ct := Pv (i + 1), bk := D.nx } σ2 H2) (hd : ∀ σ' H', Pv xs.length σ' H' → D.nx σ' H') : kLst K g t D σ (.ref a) H :=
  ⟨a, rfl, ⟨xs, hx⟩, for_list Pv h0 hl hs hd⟩
theorem q_tup_for {a : Addr} {xs : List V} (hx : SqT K H a xs) (Pv : Nat → L2.St → Hp → Prop) (h0 : Pv 0 σ H) (hl : ∀ i σ' H', i ≤ xs.length → Pv i σ' H' → SqT K H' a xs)
    (hs : ∀ i x σ' H', xs[i]? = some x → Pv i σ' H' → g x σ' H' fun σ2 H2 => t { D with nx := Pv (i + 1), ct := Pv (i + 1), bk := D.nx } σ2 H2) (hd : ∀ σ' H', Pv xs.length σ' H' → D.nx σ' H') : kTup K g t D σ (.ref a) H :=
  ⟨a, rfl, ⟨xs, hx⟩, for_tup Pv h0 hl hs hd⟩
theorem q_name {k : Nat} {v : V} {R : L2.St → Hp → Prop} (h : R (σ.set k (some v)) H) : gName k v σ H R := h
/-! comprehensions -/
def kcLst (K : PySem.W.Frag) (g : TG) (tt : TT) (te : TE) (vs : List Nat) (σ : L2.St) (Q : VK) : V → Hp → Prop := fun x H1 => ∃ a, x = .ref a ∧ (∃ xs, SqL K H1 a xs) ∧ ∀ D, H1 D = none → ∃ W : Nat → Nat → Hp → Prop, (∃ m, W 0 m (upd H1 D (.lst []))) ∧ ∀ i m H, W i m H →
  ((Itl K a).stop i H ∧ Q (.ref D) H) ∨ ((Itl K a).go i H ∧ ∃ Nx : Hp → Prop, (∀ H', Nx H' → ∃ m', m' < m ∧ W (i + 1) m' H') ∧ ∀ x H', (Itl K a).yld i H x H' → g x (wipe σ vs) H' fun σ2 H2 => wipe σ2 vs = wipe σ vs ∧ tt σ2 H2 fun b H3 =>
    if b = true then te σ2 H3 fun y H4 => ∃ acc, H4 D = some (.lst acc) ∧ acc.length < sizeLine ∧ Nx (upd H4 D (.lst (acc ++ [y]))) else Nx H3)
def kcTup (K : PySem.W.Frag) (g : TG) (tt : TT) (te : TE) (vs : List Nat) (σ : L2.St) (Q : VK) : V → Hp → Prop := fun x H1 => ∃ a, x = .ref a ∧ (∃ xs, SqT K H1 a xs) ∧ ∀ D, H1 D = none → ∃ W : Nat → Nat → Hp → Prop, (∃ m, W 0 m (upd H1 D (.lst []))) ∧ ∀ i m H, W i m H →
  ((Itt K a).stop i H ∧ Q (.ref D) H) ∨ ((Itt K a).go i H ∧ ∃ Nx : Hp → Prop, (∀ H', Nx H' → ∃ m', m' < m ∧ W (i + 1) m' H') ∧ ∀ x H', (Itt K a).yld i H x H' → g x (wipe σ vs) H' fun σ2 H2 => wipe σ2 vs = wipe σ vs ∧ tt σ2 H2 fun b H3 =>
    if b = true then te σ2 H3 fun y H4 => ∃ acc, H4 D = some (.lst acc) ∧ acc.length < sizeLine ∧ Nx (upd H4 D (.lst (acc ++ [y]))) else Nx H3)
def kcRng1 (g : TG) (tt : TT) (te : TE) (vs : List Nat) (σ : L2.St) (Q : VK) : List V → Hp → Prop := fun us H1 => ∃ j : Int, us = [.int j] ∧ -(2 ^ 62) ≤ j ∧ j < 2 ^ 62 ∧ ∀ D, H1 D = none → ∃ W : Nat → Nat → Hp → Prop, (∃ m, W 0 m (upd H1 D (.lst []))) ∧ ∀ i m H, W i m H →
  ((Itr 0 j.toNat).stop i H ∧ Q (.ref D) H) ∨ ((Itr 0 j.toNat).go i H ∧ ∃ Nx : Hp → Prop, (∀ H', Nx H' → ∃ m', m' < m ∧ W (i + 1) m' H') ∧ ∀ x H', (Itr 0 j.toNat).yld i H x H' → g x (wipe σ vs) H' fun σ2 H2 => wipe σ2 vs = wipe σ vs ∧ tt σ2 H2 fun b H3 =>
    if b = true then te σ2 H3 fun y H4 => ∃ acc, H4 D = some (.lst acc) ∧ acc.length < sizeLine ∧ Nx (upd H4 D (.lst (acc ++ [y]))) else Nx H3)
variable {tt : TT} {te : TE} {ws : List Nat}
theorem q_lcL (h : ta σ H (kcLst K g tt te ws σ Q)) : tLc (iSeqA K ta) g tt te ws σ H Q := .inl h
theorem q_lcT (h : ta σ H (kcTup K g tt te ws σ Q)) : tLc (iSeqA K ta) g tt te ws σ H Q := .inr (.inl h)
theorem q_lcR1 {ta : TA} (h : ta σ H (kcRng1 g tt te ws σ Q)) : tLc (iRng1 ta) g tt te ws σ H Q := h
theorem q_lst_lc {a : Addr} {xs : List V} (hx : SqL K H a xs) (h : ∀ D, H D = none → ∃ Pv : Nat → Hp → Prop, Pv 0 (upd H D (.lst [])) ∧ (∀ i H', i ≤ xs.length → Pv i H' → SqL K H' a xs) ∧
    (∀ i x H', xs[i]? = some x → Pv i H' → g x (wipe σ ws) H' fun σ2 H2 => wipe σ2 ws = wipe σ ws ∧ tt σ2 H2 fun b H3 => if b = true then te σ2 H3 fun y H4 => ∃ acc, H4 D = some (.lst acc) ∧ acc.length < sizeLine ∧ Pv (i + 1) (upd H4 D (.lst (acc ++ [y]))) else Pv (i + 1) H3) ∧
    ∀ H', Pv xs.length H' → Q (.ref D) H') : kcLst K g tt te ws σ Q (.ref a) H := ⟨a, rfl, ⟨xs, hx⟩, fun D hD => by
  obtain ⟨Pv, h0, hl, hs, hd⟩ := h D hD
  exact lc_list Pv h0 hl hs hd⟩
theorem q_rng_lc (n : Nat) (hn : n ≤ 1000000) (h : ∀ D, H D = none → ∃ Pv : Nat → Hp → Prop, Pv 0 (upd H D (.lst [])) ∧
    (∀ i H', i < n → Pv i H' → g (.int (i : Nat)) (wipe σ ws) H' fun σ2 H2 => wipe σ2 ws = wipe σ ws ∧ tt σ2 H2 fun b H3 => if b = true then te σ2 H3 fun y H4 => ∃ acc, H4 D = some (.lst acc) ∧ acc.length < sizeLine ∧ Pv (i + 1) (upd H4 D (.lst (acc ++ [y]))) else Pv (i + 1) H3) ∧
    ∀ H', Pv n H' → Q (.ref D) H') : kcRng1 g tt te ws σ Q [.int (n : Nat)] H := ⟨n, rfl, by omega, by omega, fun D hD => by
  obtain ⟨Pv, h0, hs, hd⟩ := h D hD
  rw [Int.toNat_natCast]
  refine lc_range (n := n) Pv h0 (fun i H' hi p => ?_) hd
  rw [Int.zero_add]
  exact hs i H' hi p⟩
end
end Cw

set_option maxHeartbeats 4000000
/-! own exception classes over another own one over Exception, whose __init__ keeps its one argument -/
namespace Cw
open PySem PySem.Spec PyProof.Rows L2
abbrev tailE : List Value := [.type "Exception", .type "BaseException", .type "object"]
def eqW (a b : Option (Option Value)) : Bool := decide (a = b)
theorem bA {a b : Bool} (h : (a && b) = true) : a = true ∧ b = true := Bool.and_eq_true_iff.mp h
/-- what the written part says of such a class at C, its __init__ at fI, its field -/
structure XcC (K : PySem.W.Frag) (C fI : Addr) (fld : Str) : Prop where
  kC : PySem.W.keepIn K (.ref C) = true
  ii : PySem.W.excInitIn K C tailE "Exception.__new__" = true
  ov : PySem.W.excOver K C tailE = true
  hd : PySem.W.hasDictIn K C = true
  sa : PySem.W.findIn K (.ref C) "__setattr__" = some (some (.builtin "object.__setattr__"))
  ga : PySem.W.findIn K (.ref C) "__getattribute__" = some (some (.builtin "BaseException.__getattribute__"))
  gg : PySem.W.findIn K (.ref C) "__getattr__" = some none
  no : PySem.W.findIn K (.ref C) fld = some none
  iC : PySem.W.findIn K (.ref C) "__init__" = some (some (.ref fI))
  tI : PySem.W.typeIn K (.ref fI) = some (.type "function")
  exC : PySem.W.subIn K (.ref C) (.type "BaseException") = some true
  tyC : PySem.W.typeIn K (.ref C) = some (.type "type")
  cA : PySem.W.findIn K (.ref C) "__class__" = some (some (.builtin "object.__class__"))
  sp : PySem.W.specialIn K (.builtin "object.__class__") "__get__" = some (some (.builtin "getset_descriptor.__get__"))
  tk : PySem.W.takesIn K (.builtin "object.__class__") = some true
  mo : PySem.W.mroIn K C (.type "object") = some true
def xcB (K : PySem.W.Frag) (C fI : Addr) (fld : Str) : Bool :=
  PySem.W.keepIn K (.ref C) && (PySem.W.excInitIn K C tailE "Exception.__new__" && (PySem.W.excOver K C tailE && (PySem.W.hasDictIn K C && (eqW (PySem.W.findIn K (.ref C) "__setattr__") (some (some (.builtin "object.__setattr__"))) &&
  (eqW (PySem.W.findIn K (.ref C) "__getattribute__") (some (some (.builtin "BaseException.__getattribute__"))) && (eqW (PySem.W.findIn K (.ref C) "__getattr__") (some none) && (eqW (PySem.W.findIn K (.ref C) fld) (some none) && (eqW (PySem.W.findIn K (.ref C) "__init__") (some (some (.ref fI))) &&
  (decide (PySem.W.typeIn K (.ref fI) = some (.type "function")) && (decide (PySem.W.subIn K (.ref C) (.type "BaseException") = some true) && (decide (PySem.W.typeIn K (.ref C) = some (.type "type")) && (eqW (PySem.W.findIn K (.ref C) "__class__") (some (some (.builtin "object.__class__"))) &&
  (eqW (PySem.W.specialIn K (.builtin "object.__class__") "__get__") (some (some (.builtin "getset_descriptor.__get__"))) && (decide (PySem.W.takesIn K (.builtin "object.__class__") = some true) && decide (PySem.W.mroIn K C (.type "object") = some true)))))))))))))))
theorem xcB_ok {K : PySem.W.Frag} {C fI : Addr} {fld : Str} (h : xcB K C fI fld = true) : XcC K C fI fld := by
  obtain ⟨h1, h⟩ := bA h
  obtain ⟨h2, h⟩ := bA h
  obtain ⟨h3, h⟩ := bA h
  obtain ⟨h4, h⟩ := bA h
  obtain ⟨h5, h⟩ := bA h
  obtain ⟨h6, h⟩ := bA h
  obtain ⟨h7, h⟩ := bA h
  obtain ⟨h8, h⟩ := bA h
  obtain ⟨h9, h⟩ := bA h
  obtain ⟨h10, h⟩ := bA h
  obtain ⟨h11, h⟩ := bA h
  obtain ⟨h12, h⟩ := bA h
  obtain ⟨h13, h⟩ := bA h
  obtain ⟨h14, h⟩ := bA h
  obtain ⟨h15, h16⟩ := bA h
  exact ⟨h1, h2, h3, h4, of_decide_eq_true h5, of_decide_eq_true h6, of_decide_eq_true h7, of_decide_eq_true h8, of_decide_eq_true h9, of_decide_eq_true h10, of_decide_eq_true h11, of_decide_eq_true h12, of_decide_eq_true h13, of_decide_eq_true h14, of_decide_eq_true h15, of_decide_eq_true h16⟩
theorem XcC.xf {K : PySem.W.Frag} {C fI : Addr} {fld : Str} (T : XcC K C fI fld) : XfC K C := ⟨T.ga, T.gg, T.exC, T.hd⟩
theorem XcC.cls {K : PySem.W.Frag} {C fI : Addr} {fld : Str} (T : XcC K C fI fld) : (PySem.W.clsIn K C).isSome = true := by
  obtain ⟨cd, h, _⟩ := PySem.W.any_some T.hd
  rw [h] <;> rfl
/-- the text of such an __init__ -/
structure InitS (st : Stmt) (qual fld : Str) : Prop where
  body : ∃ q1 q2 q3 q4, defBody st = [.Assign [.Attribute (.Name "self" q1) fld q2] (.Name fld q3) q4]
  kind : (defScope st).kind = .function
  co : (defScope st).isCoroutine = false
  gen : (defScope st).isGenerator = false
  ks : ∀ L f cd, (envOfC qual (defScope st) L f cd).kindOf "self" = some .local
  kf : ∀ L f cd, (envOfC qual (defScope st) L f cd).kindOf fld = some .local
  nm : ∀ x v : Value, (([("self", x), (fld, v)] : List (Str × Value)).all fun y => (defScope st).names.lookup y.1 == some .local || (defScope st).names.lookup y.1 == some .cell) = true
  bl : ∀ L f cd (x v : Value), bindL (envOfC qual (defScope st) L f cd).kindOf ([("self", x), (fld, v)] : List (Str × Value)) (fun _ => none) "self" = some x ∧ bindL (envOfC qual (defScope st) L f cd).kindOf ([("self", x), (fld, v)] : List (Str × Value)) (fun _ => none) fld = some v
  bind : ∀ (kV doc pm : Value) (an : Option Addr) (cdv ct : Value) (x v : Value), bindArgs (PySem.W.fnOf "__init__" qual (defArgs st) (defBody st) (defScope st) .none kV doc pm an cdv ct) ⟨[x, v], []⟩ = pure ([("self", x), (fld, v)] : List (Str × Value))
  db : (fld == ("__debug__" : Str)) = false
namespace Xc
open PySem.W PySem.Calls PySem.HandSPX
theorem one_size (v : Value) : [v].length ≤ sizeLine := by
  rw [sizeLine_eq]
  exact (by decide : 1 ≤ 16777216)
theorem ldC {M : Model} {s : Shared} {name : Str} {scope : Scope} {L a : Addr} {cd : Value} {m : Str → Option Value} {x : Str} {pos : Pos} {v : Value} {Q : Value → Shared → Prop} {A : Around} {E : Value → Shared → Prop} (hn : s.heap.Ns L m) (hv : m x = some v) (h : Q v s)
    (hk : scope.kind = .function) (hl : (envOfC name scope L a cd).kindOf x = some .local) (hd : (x == ("__debug__" : Str)) = false) :
    wpAny M A (eval (.Name x pos) (envOfC name scope L a cd)) Q E s := wpAny_Name (wpAny_loadName_local hk hl hn hv h) hd
/-- what a store into a fresh exception at x leaves -/
structure InitEnd (h h' : Heap) (x C dx t1 : Addr) (fld : Str) (v : Value) : Prop where
  keep : ∀ b o, b ≠ x → h.get? b = some o → h'.get? b = some o
  obj : h'.get? x = some { cls := .ref C, dict := some dx, data := .fields #[.ref t1, .none, .none, .none, .bool false, .none] }
  dbig : h.objs.size ≤ dx
  dne : dx ≠ x
  ns : h'.Ns1 dx (fun y => if y = fld then some v else none)
/-- a made one -/
structure OwnMade (h h' : Heap) (e C d : Addr) (fld : Str) (v : Value) : Prop where
  keep : ∀ b o, h.get? b = some o → h'.get? b = some o
  new : h.objs.size ≤ e
  obj : ∃ t1 : Addr, h'.get? e = some { cls := .ref C, dict := some d, data := .fields #[.ref t1, .none, .none, .none, .bool false, .none] }
  dbig : h.objs.size ≤ d
  dne : d ≠ e
  ns : h'.Ns1 d (fun y => if y = fld then some v else none)
section
variable {prog : Program} {w : World} {A : Around} {E : Value → Shared → Prop} {R : Result → Shared → Prop} {hp : Heap} {g : Array GenState} {d : Drawn} {t : Nat} {os : OsState} {K : Frag} {C fI : Addr} {fld qual : Str} {st : Stmt} {fd : FuncData}
open Builtin Builtin.ObjectAttr in
theorem osa {tk : Tok} {v : Value} {x : Addr} {fv : Array Value} (T : XcC K C fI fld) (X : K.In hp) (hx : hp.get? x = some { cls := .ref C, data := .fields fv })
    (hq : ∀ h' tk' dx, (∀ b o, b ≠ x → hp.get? b = some o → h'.get? b = some o) → hp.objs.size ≤ dx → dx ≠ x → h'.get? x = some { cls := .ref C, dict := some dx, data := .fields fv } →
      h'.Ns1 dx (fun y => if y = fld then some v else none) → R (.ok (.ret .none)) ⟨h', g, d, tk', os⟩) :
    codeAny (model prog w) A (.call (.builtin "object.__setattr__") ⟨[.ref x, .str fld tk, v], []⟩) R ⟨hp, g, d, t, os⟩ := by
  have hxs : x ≠ hp.objs.size := Nat.ne_of_lt (Heap.lt_size hx)
  refine osa_openX (s := ⟨hp, g, d, t, os⟩) (od := none) (r := none) PySem.F.store_Exception X ⟨hx, rfl, rfl, trivial⟩ T.ov (by unfold takerIn; rw [T.no] <;> rfl) fun b => ?_
  show wpAny _ _ (storeInOwnDict (.ref x) (.ref C) (.str fld tk) fld v b) _ _ _
  obtain ⟨cd, hc, hd'⟩ := any_some T.hd
  have hcls : W.Looks (model prog w) hp (classData C) cd := W.looks_clsIn X hc
  obtain ⟨nm, bs, mro, ns, qn, hd, sn, sb, ab, col, del⟩ := cd
  dsimp only at hd'
  subst hd'
  unfold storeInOwnDict ownDictForStores
  repeat (first | with_reducible refine store_in_new ?_ ?_ | with_reducible refine wpAny_loadPart_at hx ?_ | with_reducible refine hcls.at ?_ | wp_step)
  · exact ⟨_, #[], _, (Heap.get?_update_ne _ _ _ _ hxs.symm).trans (Heap.get?_push_at rfl rfl), rfl, fun e he => absurd he (by simp), fun _ => rfl⟩
  · intro h' tk' hn' hs
    have hx₁ : (hp.push { cls := .type "dict", data := .dict #[] }).get? x = some { cls := .ref C, data := .fields fv } := Heap.get?_push_of_some _ hx
    refine hq h' tk' hp.objs.size (fun b o hb ho => ?_) (Nat.le_refl _) hxs.symm ?_ hn'
    · exact (hs.2 b (Nat.ne_of_lt (Heap.lt_size ho))).trans ((Heap.get?_update_ne _ _ _ _ hb).trans (Heap.get?_push_of_some _ ho))
    · exact (hs.2 x hxs).trans (Heap.get?_update_self _ hx₁ rfl)
theorem init {s : Shared} (T : XcC K C fI fld) (S : InitS st qual fld) (F : FunD K "__init__" qual (defArgs st) (defBody st) (defScope st) [] [] fI fd) {x t0 : Addr} {v : Value} (X : K.In s.heap) (hlim : s.heap.NoLimit) (hx : s.heap.get? x = some (excO C t0)) (hroom : A.depth < recursionLimit)
    (hq : ∀ h' tk dx, InitEnd s.heap h' x C dx t0 fld v → R (.ok (.ret .none)) { s with heap := h', toks := tk }) :
    codeAny (model prog w) A (.call (.ref fI) ⟨[.ref x, v], []⟩) R s := by
  obtain ⟨oc, od, dV, kV, doc, pm, an, cdv, ct, osl, rfl, ho, hcd, hdd, _⟩ := F.ex
  rcases hdd with ⟨_, rfl⟩ | ⟨z, _⟩
  case inr => exact absurd rfl z
  refine Att.call_fn (binds := [("self", .ref x), (fld, v)]) X hlim ho hcd hroom (BindsTo.of_eq (S.bind _ _ _ _ _ _ _ _)) (S.nm _ _) (fun s₁ IC => ?_) S.co S.gen S.kind
  obtain ⟨h₁, tk₁, rfl⟩ := IC.toInCall.same
  have k : ∀ b o, s.heap.get? b = some o → h₁.get? b = some o := IC.toInCall.keep
  have hn := IC.toInCall.ns
  have hxL : s.heap.objs.size ≠ x := Nat.ne_of_gt (Heap.lt_size hx)
  have X₁ : K.In h₁ := X.keeps k
  have hx₁ := k _ _ hx
  obtain ⟨q1, q2, q3, q4, eb⟩ := S.body
  rw [eb]
  obtain ⟨b1, b2⟩ := S.bl s.heap.objs.size fI cdv (.ref x) v
  refine wpAny_execs_cons (plainObj_wpAny_Assign_Attribute ?_)
  refine ldC (v := v) hn b2 (ldC (v := .ref x) hn b1 ?_ S.kind (S.ks _ _ _) (by decide)) S.kind (S.kf _ _ _) S.db
  refine set_plain X₁ (ox := excO C t0) (od := none) ⟨hx₁, rfl, rfl, trivial⟩ T.sa ?_
  refine osa T X₁ hx₁ (fun h₃ tk₃ dx k₃ dn dne hx₃ hn₃ => ?_)
  have z : s.heap.objs.size < h₁.objs.size := hn.lt
  exact wpAny_execs_nil (hq h₃ tk₃ dx ⟨fun b o hb e => k₃ b o hb (k b o e), hx₃, Nat.le_of_lt (Nat.lt_of_lt_of_le z dn), dne, hn₃⟩)
theorem made {s : Shared} (T : XcC K C fI fld) (S : InitS st qual fld) (F : FunD K "__init__" qual (defArgs st) (defBody st) (defScope st) [] [] fI fd) {v : Value} (X : K.In s.heap) (hlim : s.heap.NoLimit) (hroom : A.depth + 1 < recursionLimit)
    (hq : ∀ h' tk e d, OwnMade s.heap h' e C d fld v → R (.ok (.ret (.ref e))) { s with heap := h', toks := tk }) :
    codeAny (model prog w) A (.call (.ref C) ⟨[v], []⟩) R s := by
  obtain ⟨nm, N', qn, bs, bm, hdct, sn, sub, ab, col, dd, k0, k1, k2, k3, k5, hC, hT⟩ := excInit_of X T.ii
  obtain ⟨hp, g, dr, tk, os⟩ := s
  have k : ∀ b o, hp.get? b = some o → ((hp.push (kdv_tup [v])).push (excO C hp.objs.size)).get? b = some o := fun b o e => Heap.get?_push_of_some _ (Heap.get?_push_of_some _ e)
  have hget : ((hp.push (kdv_tup [v])).push (excO C hp.objs.size)).get? (hp.objs.size + 1) = some (excO C hp.objs.size) := by heap_get
  refine HandSPX.call_own PySem.F.excBase_Exception hT hC (looks_findIn X T.iC) (fun self => bind_fn X self T.tI) (one_size v) ?_
  refine init (s := ⟨(hp.push (kdv_tup [v])).push (excO C hp.objs.size), g, dr, tk, os⟩) T S F (X.keeps k) (hlim.keeps k) hget ?_ fun h' tk' dx ⟨k', hx, dn, dne, hns⟩ => ?_
  · show A.depth + 1 < recursionLimit
    exact hroom
  · have old : ∀ b o, hp.get? b = some o → h'.get? b = some o := fun b o e => k' b o (Nat.ne_of_lt (Nat.lt_succ_of_lt (Heap.lt_size e))) (k b o e)
    have z : hp.objs.size + 1 + 1 ≤ dx := by
      first
        | (simpa only [Heap.size_push] using dn)
        | exact dn
        | (have q := dn; rw [Heap.size_push, Heap.size_push] at q; exact q)
    exact ⟨rfl, hq h' tk' (hp.objs.size + 1) dx ⟨old, Nat.le_succ _, ⟨_, hx⟩, Nat.le_trans (Nat.le_trans (Nat.le_succ _) (Nat.le_succ _)) z, dne, hns⟩⟩
end
end Xc
theorem relO_one {v : V} {v' : Value} {fld : Str} (r : RelV v v') (f : Str) : RelO (List.lookup f [(fld, v)]) (if f = fld then some v' else none) := by
  by_cases hw : f = fld
  · subst hw
    rw [if_pos rfl]
    have q : List.lookup f [(f, v)] = some v := by simp [List.lookup]
    rw [q]
    exact r
  · rw [if_neg hw]
    have qw : (f == fld) = false := by simpa using hw
    have q2 : List.lookup f [(fld, v)] = none := by simp [List.lookup, qw]
    rw [q2]
    trivial
/-! ### one more name for a class: how it stands in the module -/
/-- a class by its name, with its __init__ -/
def Xn (K : PySem.W.Frag) (mg : Str → Option Value) (x fld : Str) (C : Addr) : Prop :=
  mg x = some (.ref C) ∧ ∃ (fI : Addr) (st : Stmt) (qual : Str) (fd : FuncData), XcC K C fI fld ∧ InitS st qual fld ∧ FunD K "__init__" qual (defArgs st) (defBody st) (defScope st) [] [] fI fd
/-- an exception object of the class at C, with its dict at d, not raised -/
def ExH (C d a : Addr) : HO := .ext fun h => ∃ t1 : Addr, h.get? a = some { cls := .ref C, dict := some d, data := .fields #[.ref t1, .none, .none, .none, .bool false, .none] }
section
variable {X : Cx} {C : Addr} {x fld : Str}
/-- C(e), about to be raised -/
def tMkX (C : Addr) (fld : Str) (ta : TA) : L2.St → Hp → XK → Prop := fun σ H Q => ta σ H fun vs H1 => ∃ v, vs = [v] ∧ ∀ d, H1 d = none → Q (.ref C) (some d) (upd H1 d (.xd [(fld, v)]))
theorem pmk_x {a : Expr} {ta : TA} {p pos : Pos} {k : Nat} (T : Xn X.K X.mg x fld C) (hr : Room k X.A) (ha : PA X [a] ta) (hg : Gl X x) (hdb : (x == ("__debug__" : Str)) = false := by decide)
    (he : starEach (a :: []) X.env = (false, eval a X.env) :: starEach [] X.env := by rfl) (hpl : (backTo pos (starEach [] X.env)).any (·.1) = false := by rfl) :
    PMk X (.Call (.Name x p) [a] [] pos) (tMkX C fld ta) := by
  obtain ⟨gC, fI, st, qual, fd, T, S, F⟩ := T
  intro pins s σ H Q I h
  refine wpAny_Call_Name_kw (ld_glob I hg gC ?_ hdb)
  refine PySem.W.callWith_K (h₀ := X.base) I.ok.mod.kin T.kC (thn (ha.run pos pins s σ H _ I h) fun us s1 hh => ?_) he hpl
  obtain ⟨vs, H1, I1, r1, v, ev, q1⟩ := hh
  subst ev
  refine ⟨I1.kIn, ?_⟩
  cases r1 with
  | cons rv rn =>
    rename_i v' us'
    cases rn
    show wpAny _ _ (call (.ref C) [v']) _ _ _
    have hlim := I1.nolimit
    obtain ⟨hp, g, dr, tk, os⟩ := s1
    refine wpAny_call (Xc.made T S F I1.kIn hlim (by have := hr.dp; omega) fun h' tk' e d M => ?_)
    show MkP X pins σ Q (.ref e) ⟨h', g, dr, tk', os⟩
    obtain ⟨t1, hoe⟩ := M.obj
    have hns := M.ns
    obtain ⟨G', g1, g2⟩ := restrict h' fun b => decide (b ≠ e)
    have gk : ∀ b, b ≠ e → G'.get? b = h'.get? b := fun b hb => g1 b (decide_eq_true hb)
    have ge : G'.get? e = none := g2 e (by simp)
    have old : ∀ b o, hp.get? b = some o → G'.get? b = some o := fun b o q => (gk b (Nat.ne_of_lt (Nat.lt_of_lt_of_le (Heap.lt_size q) M.new))).trans (M.keep b o q)
    have ob : ObjOk X.prog X.w (upd H1 d (.xd [(fld, v)])) G' d (.xd [(fld, v)]) :=
      ⟨_, hns.at (fun o q => (gk d M.dne).trans q), fun f => relO_one rv f⟩
    have J : Inv X pins σ (upd H1 d (.xd [(fld, v)])) ⟨G', g, dr, tk', os⟩ := I1.laid (t' := tk') old M.dbig ob
    refine ⟨e, _, _, ⟨G', g, dr, tk', os⟩, _, .ref C, some d, rfl, J, fun b o q => ?_, ge, hoe, ⟨rfl, rfl⟩, rfl, rfl, ?_, rfl, I1.bare, raises_own T.exC T.tyC, q1 d (I1.hok.fresh M.dbig)⟩
    · by_cases hb : b = e
      · have q' : G'.get? b = some o := q
        rw [hb, ge] at q'; cases q'
      · exact (gk b hb).symm.trans q
    · rw [upd_ne (Ne.symm M.dne)]
      exact I1.hok.fresh M.new
/-- raise C(e) -/
def tRaiseX (C : Addr) (fld : Str) (W : WX) (ta : TA) : TS := fun _ σ H => tMkX C fld ta σ H fun cls d H' => W cls d σ H'
theorem ps_raiseX {a : Expr} {ta : TA} {W : WX} {p pos pos2 : Pos} {k : Nat} (hc : X.calm = true) (T : Xn X.K X.mg x fld C) (hr : Room k X.A) (tk : Takes X W) (ha : PA X [a] ta) (hg : Gl X x) (hdb : (x == ("__debug__" : Str)) = false := by decide)
    (he : starEach (a :: []) X.env = (false, eval a X.env) :: starEach [] X.env := by rfl) (hpl : (backTo pos (starEach [] X.env)).any (·.1) = false := by rfl) :
    PS X (.Raise (some (.Call (.Name x p) [a] [] pos)) none pos2) (tRaiseX C fld W ta) := ps_raise hc tk (pmk_x T hr ha hg hdb he hpl)
/-- C(e), a value -/
def tNewX (C : Addr) (fld : Str) (ta : TA) : TE := fun σ H Q => ta σ H fun vs H1 => ∃ v, vs = [v] ∧ ∀ d e, H1 d = none → H1 e = none → e ≠ d → Q (.ref e) (upd (upd H1 d (.xd [(fld, v)])) e (ExH C d e))
theorem pe_newX {a : Expr} {ta : TA} {p pos : Pos} {k : Nat} (T : Xn X.K X.mg x fld C) (hr : Room k X.A) (ha : PA X [a] ta) (hg : Gl X x) (hdb : (x == ("__debug__" : Str)) = false := by decide)
    (he : starEach (a :: []) X.env = (false, eval a X.env) :: starEach [] X.env := by rfl) (hpl : (backTo pos (starEach [] X.env)).any (·.1) = false := by rfl) :
    PE X (.Call (.Name x p) [a] [] pos) (tNewX C fld ta) := by
  obtain ⟨gC, fI, st, qual, fd, T, S, F⟩ := T
  refine ⟨fun pins s σ H Q I h => ?_⟩
  refine wpAny_Call_Name_kw (ld_glob I hg gC ?_ hdb)
  refine PySem.W.callWith_K (h₀ := X.base) I.ok.mod.kin T.kC (thn (ha.run pos pins s σ H _ I h) fun us s1 hh => ?_) he hpl
  obtain ⟨vs, H1, I1, r1, v, ev, q1⟩ := hh
  subst ev
  refine ⟨I1.kIn, ?_⟩
  cases r1 with
  | cons rv rn =>
    rename_i v' us'
    cases rn
    show wpAny _ _ (call (.ref C) [v']) _ _ _
    have hlim := I1.nolimit
    obtain ⟨hp, g, dr, tk, os⟩ := s1
    refine wpAny_call (Xc.made T S F I1.kIn hlim (by have := hr.dp; omega) fun h' tk' e d M => ?_)
    obtain ⟨t1, hoe⟩ := M.obj
    have hns := M.ns
    obtain ⟨G', g1, g2⟩ := restrict h' fun b => decide (b ≠ e)
    have gk : ∀ b, b ≠ e → G'.get? b = h'.get? b := fun b hb => g1 b (decide_eq_true hb)
    have ge : G'.get? e = none := g2 e (by simp)
    have old : ∀ b o, hp.get? b = some o → G'.get? b = some o := fun b o q => (gk b (Nat.ne_of_lt (Nat.lt_of_lt_of_le (Heap.lt_size q) M.new))).trans (M.keep b o q)
    have ob : ObjOk X.prog X.w (upd H1 d (.xd [(fld, v)])) G' d (.xd [(fld, v)]) :=
      ⟨_, hns.at (fun o q => (gk d M.dne).trans q), fun f => relO_one rv f⟩
    have J : Inv X pins σ (upd H1 d (.xd [(fld, v)])) ⟨G', g, dr, tk', os⟩ := I1.laid (t' := tk') old M.dbig ob
    have hne : e ≠ d := Ne.symm M.dne
    have h1e : H1 e = none := I1.hok.fresh M.new
    have ke : ∀ b o, G'.get? b = some o → h'.get? b = some o := fun b o q => by
      by_cases hb : b = e
      · rw [hb, ge] at q
        cases q
      · exact (gk b hb).symm.trans q
    exact ⟨.ref e, _, J.laidN (h' := h') (a := e) (o := ExH C d e) (t' := tk') ke ge (by rw [upd_ne hne]; exact h1e) ⟨⟨t1, hoe⟩, ⟨_, hoe⟩, fun h1 h2 ⟨t, q⟩ kk => ⟨t, kk _ q⟩⟩, rfl, q1 d e (I1.hok.fresh M.dbig) h1e hne⟩
/-- e.f of one not raised -/
def rXat (K : PySem.W.Frag) (f : Str) : V → Hp → VK → Prop := fun x H1 Q => ∃ a C d fs v, x = .ref a ∧ H1 a = some (ExH C d a) ∧ XfC K C ∧ PySem.W.findIn K (.ref C) f = some none ∧ H1 d = some (.xd fs) ∧ fs.lookup f = some v ∧ Q v H1
def tXat (K : PySem.W.Frag) (f : Str) (te : TE) : TE := fun σ H Q => te σ H fun x H1 => rXat K f x H1 Q
theorem pe_xat {e : Expr} {te : TE} {pos : Pos} {n : Str} (he : PE X e te) (hb : attributeBase e n X.env (eval e X.env) = eval e X.env := by rfl) : PE X (.Attribute e n pos) (tXat X.K n te) := by
  refine ⟨fun pins s σ H Q I h => ?_⟩
  refine attr_of hb (thn (he.run pins s σ H _ I h) fun u s1 hh => ?_)
  obtain ⟨x, H1, I1, rx, a, C, d, fs, v, rfl, ea, T, hno, ed, l, q⟩ := hh
  obtain rfl : u = Value.ref a := rx
  obtain ⟨⟨t1, ha⟩, _, _⟩ := (show ObjOk X.prog X.w H1 s1.heap a (ExH C d a) from I1.hok a _ ea)
  have hx : ObjOk X.prog X.w H1 s1.heap d (.xd fs) := I1.hok d _ ed
  obtain ⟨mA, hns, hr⟩ := hx
  obtain ⟨od, ho, hl⟩ := lookIn_ns hns
  obtain ⟨u, hu, ru⟩ := RelO.some_of (v := v) (o := mA n) (by rw [← l]; exact hr n)
  have J : PySem.W.InstAt s1.heap a _ C (some od) := ⟨ha, rfl, rfl, ho⟩
  exact HandSPX.exc_get I1.kIn J T.ga T.gg T.exC (PySem.W.findObj_own T.hdC hno rfl (by rw [hl, hu])) (handed_of ru) ⟨v, H1, I1.tok _, ru, q⟩
/-- isinstance(e, c) of one not raised -/
def rIsX (K : PySem.W.Frag) : List V → Hp → VK → Prop := fun xs H Q => ∃ (a C d fI : Addr) (fld : Str) (fs : List (Str × V)) (c : V) (u : Value) (b : Bool), xs = [.ref a, c] ∧ H a = some (ExH C d a) ∧ H d = some (.xd fs) ∧ XcC K C fI fld ∧ ClsV c u ∧ PySem.W.kitOne K (.ref C) u = some b ∧ Q (.bl b) H
theorem call_isX : CallR X (.builtin "isinstance") (rIsX X.K) := by
  intro pins s σ H xs us Q I r h
  obtain ⟨a, C, d, fI, fld, fs, c, u, b, rfl, ea, ed, T, k, e, q⟩ := h
  obtain ⟨u1, u2, rfl, r1, r2⟩ := vals2 r
  cases (show u1 = Value.ref a from r1)
  have e2 := k.eq r2
  subst e2
  obtain ⟨⟨t1, ha⟩, _, _⟩ := (show ObjOk X.prog X.w H s.heap a (ExH C d a) from I.hok a _ ea)
  obtain ⟨mA, hns, hr⟩ := (show ObjOk X.prog X.w H s.heap d (.xd fs) from I.hok d _ ed)
  obtain ⟨od, ho, hl⟩ := lookIn_ns hns
  have J : PySem.W.InstAt s.heap a _ C (some od) := ⟨ha, rfl, rfl, ho⟩
  exact PySem.W.kia_one (PySem.W.kitx_exc (gt := none) T.cls T.ga T.gg T.exC T.cA T.sp T.tk T.mo) I.kIn J e (fun z => nomatch z) fun tk => ⟨.bl b, H, I.tok tk, rfl, q⟩
end
end Cw

set_option maxHeartbeats 4000000
/-! try with many clauses, some of which name what they caught -/
namespace Cw
open PySem PySem.Spec PyProof.Rows L2
abbrev Suite := Addr → Value → Option Addr → TS
/-- a suite that names what was caught in slot i -/
def asS (i : Nat) (ts : Suite) : Suite := fun a cls d D σ H => ts a cls d { nx := fun z G => D.nx (z.set i none) G, rt := D.rt, bk := fun z G => D.bk (z.set i none) G, ct := fun z G => D.ct (z.set i none) G } (σ.set i (some (.ref a))) H
/-- the rule of a suite: whatever object stands behind a -/
def SuOk (X : Cx) (suite : List Stmt) (ts : Suite) : Prop := ∀ (a : Addr) (oe : Obj) (cls : Value) (d : Option Addr) (pn : List (Addr × Obj)), Zc cls d oe → (∃ vs, oe.data = .fields vs) → PSs (X.suite a ((a, oe) :: pn)) suite (ts a cls d)
inductive HdsA (X : Cx) : List ExceptHandler → List (Value × Suite) → Prop
  | nil : HdsA X [] []
  | bare {x : Str} {c : Value} {ts : Suite} {b : Stmt} {suite : List Stmt} {p q : Pos} {hds : List ExceptHandler} {l : List (Value × Suite)} (hc : Names X x c) (su : SuOk X (b :: suite) ts) (r : HdsA X hds l) :
      HdsA X (.ExceptHandler (some (.Name x p)) none (b :: suite) q :: hds) ((c, ts) :: l)
  | as_ {x n : Str} {i : Nat} {c : Value} {ts : Suite} {b : Stmt} {suite : List Stmt} {p q : Pos} {hds : List ExceptHandler} {l : List (Value × Suite)} (hc : Names X x c) (hN : X.N.Nodup) (hi : X.N[i]? = some n) (hl : X.env.kindOf n = some .local) (su : SuOk X (b :: suite) ts) (r : HdsA X hds l) :
      HdsA X (.ExceptHandler (some (.Name x p)) (some n) (b :: suite) q :: hds) ((c, asS i ts) :: l)
section
variable {X : Cx} {pins : List (Addr × Obj)} {D : Ends} {Wout : WX} {a B : Addr}
/-- what stands when an exception has landed: the exception's object at a, the state without it -/
structure Landed (X : Cx) (pins : List (Addr × Obj)) (G : Heap) (a : Addr) (cls : Value) (d : Option Addr) (σ : L2.St) (H : Hp) (sI s' : Shared) (h : Heap) : Prop where
  inv : Inv X pins σ H sI
  nb : ∀ b o, sI.heap.get? b = some o → b ∉ frs X.stack → G.get? b = some o
  up : sI.heap.UpToSlots h
  fl : HandSPX.FlyingZ G (X.env :: X.outer) a (Zc cls d) h
  na : H a = none
  os : s'.os = sI.os
  ag : AllBare s'.gens
section
variable {G h : Heap} {cls : Value} {d : Option Addr} {σ : L2.St} {H : Hp} {sI s' : Shared}
theorem Landed.J (L : Landed X pins G a cls d σ H sI s' h) : Inv X pins σ H { s' with heap := h } := L.inv.landed L.nb L.fl.1 L.up L.os L.ag
theorem Landed.suite (L : Landed X pins G a cls d σ H sI s' h) (hf : X.env.frame = some X.env.locals) : ∃ oe vs, h.get? a = some oe ∧ Zc cls d oe ∧ oe.data = .fields vs ∧ Inv (X.suite a ((a, oe) :: (X.pn ++ pins))) [] σ H { s' with heap := h } := by
  obtain ⟨oe, vs, e, z, dt⟩ := L.fl.there
  have out : a ∉ frs (X.env :: X.outer) := fun m => by
    obtain ⟨_, o, q, nf⟩ := L.fl.2.2.1.mem m
    cases e.symm.trans q
    exact nf _ dt
  refine ⟨oe, vs, e, z, dt, L.J.suite e dt L.na (fun y => out (List.mem_filterMap.mpr ⟨X.env, List.mem_cons_self, by rw [hf, y]⟩)) fun m => ?_⟩
  obtain ⟨v, hv, q⟩ := List.mem_filterMap.mp m
  exact out (List.mem_filterMap.mpr ⟨v, List.mem_cons_of_mem _ hv, q⟩)
/-- the flight is set to none once more -/
theorem Landed.again {M : Model} {A : Around} {E : Value → Shared → Prop} {Q : Unit → Shared → Prop} (L : Landed X pins G a cls d σ H sI s' h) (k : ∀ h2, Landed X pins G a cls d σ H sI s' h2 → Q () { s' with heap := h2 }) :
    wpAny M A (setFlight (.ref a) none) Q E { s' with heap := h } := HandSPX.lands_againZ L.fl fun h2 f u => k h2 ⟨L.inv, L.nb, L.up.trans u, f, L.na, L.os, L.ag⟩
/-- no clause is left: it flies on -/
theorem Landed.on (L : Landed X pins G a cls d σ H sI s' h) (hs : X.stack = X.env :: X.outer) (hf : X.env.frame = some X.env.locals) (tk : Takes X Wout) (w : Wout cls d σ H) :
    wpAny (model X.prog X.w) X.A (handleBy (.ref a) X.env []) (SP X pins D) X.xe { s' with heap := h } := by
  refine wpAny_handleBy_nil ?_
  obtain ⟨_, _, _, oe, vs, T, _, _, he, _, hd, h1, _⟩ := id L.fl
  have fin : wpAny (model X.prog X.w) X.A (setFlight (.ref a) X.env.frame) (fun _ z => wpAny (model X.prog X.w) X.A (throw (.ref a) : Sem Flow) (SP X pins D) X.xe z) X.xe { s' with heap := h } := by
    rw [hf]
    refine HandSPX.setFlight_upZ L.fl fun h2 hh u => wpAny_throw (tk _ _ ⟨a, G, sI, pins, σ, H, cls, d, rfl, L.inv, L.nb, L.up.trans u, .inr (.inr ?_), L.na, L.os, L.ag, w⟩)
    rw [hs]
    exact hh
  unfold PySem.passOn
  refine wpAny_bind (wpAny_field he hd h1 ?_)
  rw [if_neg (by simp)]
  first
    | exact wpAny_bind (wpAny_pure (wpAny_bind fin))
    | exact wpAny_bind fin
/-- a clause's class is read and held against the exception's -/
theorem Landed.test {x : Str} {c : Value} {p : Pos} {b : Bool} {R : Bool → Shared → Prop} {E : Value → Shared → Prop} (L : Landed X pins G a cls d σ H sI s' h) (hf : X.env.frame = some X.env.locals) (hc : Names X x c) (hb : PySem.W.exmOne X.K cls c = some b) (q : R b { s' with heap := h }) :
    wpAny (model X.prog X.w) (X.A.mark (some (.ref a))) (eval (.Name x p) X.env) (fun u z => wpAny (model X.prog X.w) (X.A.mark (some (.ref a))) (excMatches (.ref a) u) R E z) E { s' with heap := h } := by
  obtain ⟨oe, vs, e, z, dt, S⟩ := L.suite hf
  have m : wpAny (model X.prog X.w) (X.A.mark (some (.ref a))) (excMatches (.ref a) c) R E { s' with heap := h } :=
    (PySem.W.exm_one (M := model X.prog X.w) L.J.kIn (fun A Q E s k q => wpAny_typeOf_ref (k _ _ e) (by rw [z.1]; exact q)) hb).here q
  obtain ⟨hg, hdb, hm | ⟨hm, hv, hn⟩⟩ := hc
  · exact ld_glob (X := X.suite a ((a, oe) :: (X.pn ++ pins))) S hg hm m hdb
  · exact ld_blt (X := X.suite a ((a, oe) :: (X.pn ++ pins))) S hg hm hv m hn hdb
/-- the clauses, one behind another -/
theorem Landed.run {hds : List ExceptHandler} {l : List (Value × Suite)} (hh : HdsA X hds l) (L : Landed X pins G a cls d σ H sI s' h) (hs : X.stack = X.env :: X.outer) (hf : X.env.frame = some X.env.locals) (tk : Takes X Wout) (w : wMany X.K Wout D l cls d σ H) :
    wpAny (model X.prog X.w) X.A (handleBy (.ref a) X.env hds) (SP X pins D) X.xe { s' with heap := h } := by
  induction hh with
  | nil => exact L.on hs hf tk w
  | bare hc su r ih =>
    obtain ⟨b, hb, yes, no⟩ := w
    refine wpAny_handleBy_cons (codeAny_handlers_test ?_) (by nofun)
    refine L.test hf hc hb ?_
    cases b with
    | false => exact ih (no rfl)
    | true =>
      refine codeAny_handlers_suite (L.again fun h2 L2 => ?_)
      obtain ⟨oe, vs, e, z, dt, S⟩ := L2.suite hf
      refine wpAny_mono ((su a oe cls d (X.pn ++ pins) z ⟨_, dt⟩).run [] _ _ H _ S (yes rfl a L.na)) (fun f s6 hq => ?_) (fun _ _ z => False.elim z)
      cases f with
      | ret u =>
        obtain ⟨v, σ6, H6, S6, r6, q6⟩ := hq
        exact ⟨v, σ6, H6, S6.unsuite L.inv.ok, r6, q6⟩
      | next | brk | cont =>
        obtain ⟨σ6, H6, S6, q6⟩ := hq
        exact ⟨σ6, H6, S6.unsuite L.inv.ok, q6⟩
  | @as_ x n i c ts b₀ suite p q hds l hc hN hi hl su r ih =>
    obtain ⟨b, hb, yes, no⟩ := w
    refine wpAny_handleBy_cons (codeAny_handlers_test ?_) (by nofun)
    refine L.test hf hc hb ?_
    cases b with
    | false => exact ih (no rfl)
    | true =>
      refine codeAny_handlers_suite_as (L.again fun h2 L2 => ?_)
      obtain ⟨oe, vs, e, z, dt, S⟩ := L2.suite hf
      refine store_ok (X := X.suite a ((a, oe) :: (X.pn ++ pins))) (v := .ref a) S hN hi (.inl hl) rfl (fun s5 S5 => ?_) (.inr hl)
      refine wpAny_mono ((su a oe cls d (X.pn ++ pins) z ⟨_, dt⟩).run [] s5 _ H _ S5 (yes rfl a L.na)) (fun f s6 hq => ?_) (fun _ _ z => False.elim z)
      cases f with
      | ret u =>
        obtain ⟨v, σ6, H6, S6, r6, q6⟩ := hq
        exact gone_ok (S6.unsuite L.inv.ok) hN hi hl fun s7 J7 => ⟨v, _, H6, J7, r6, q6⟩
      | next | brk | cont =>
        obtain ⟨σ6, H6, S6, q6⟩ := hq
        exact gone_ok (S6.unsuite L.inv.ok) hN hi hl fun s7 J7 => ⟨_, H6, J7, q6⟩
end
theorem ps_tryA {body : List Stmt} {h₀ : ExceptHandler} {hds : List ExceptHandler} {l : List (Value × Suite)} {pos : Pos} {tb : WX → TS} (hs : X.stack = X.env :: X.outer) (hf : X.env.frame = some X.env.locals) (tk : Takes X Wout)
    (hb : ∀ (W : WX) (pn : List (Addr × Obj)) (xe : Value → Shared → Prop), Takes (X.tr pn xe) W → PassesOwn (model X.prog X.w) X.A X.env xe → PSs (X.tr pn xe) body (tb W)) (hh : HdsA X (h₀ :: hds) l) :
    PS X (.Try body (h₀ :: hds) [] [] pos) (fun D σ H => tb (wMany X.K Wout D l) D σ H) := by
  refine ⟨fun pins s σ H D I h => ?_⟩
  have ok := I.ok
  refine wpAny_Try_except (wpAny_mono ((hb (wMany X.K Wout D l) (X.pn ++ pins) (fun e s₁ => wpAny (model X.prog X.w) X.A (noteFrame e X.env) (fun _ s₂ => wpAny (model X.prog X.w) X.A (setFlight e none) (fun _ s₃ =>
    wpAny (model X.prog X.w) X.A (handleBy e X.env (h₀ :: hds)) (SP X pins D) X.xe s₃) X.xe s₂) X.xe s₁) (fun u s' xx => ?_) PassesOwn.looking).run [] s σ H D (I.toTry _) h) (fun f s1 hq => ?_) (fun e s1 he => he))
  · obtain ⟨a, G, sI, pins', σ', H', cls, d, rfl, J', nb, up, sky, na, os, ag, w⟩ := xx
    have sky' : Sky G (X.env :: X.outer) a (Zc cls d) X.env.locals s'.heap := by
      rw [← hs]
      exact sky
    exact Sky.land Zc.steady (by rw [ok.frames, hs]) hf sky' fun h3 fl3 up3 => Landed.run hh ⟨J'.ofTry ok, nb, up.trans up3, fl3, na, os, ag⟩ hs hf tk w
  · cases f with
    | next =>
      obtain ⟨σ', H', J', q⟩ := hq
      exact wpAny_execs_nil ⟨σ', H', J'.ofTry ok, q⟩
    | ret u =>
      obtain ⟨v, σ', H', J', r, q⟩ := hq
      exact ⟨v, σ', H', J'.ofTry ok, r, q⟩
    | brk | cont =>
      obtain ⟨σ', H', J', q⟩ := hq
      exact ⟨σ', H', J'.ofTry ok, q⟩
end
end Cw

set_option maxHeartbeats 4000000
namespace Cw
open PySem PySem.Spec PyProof.Rows L2
/-- all but the object at b stands -/
def Mut (b : Addr) (H H' : Hp) : Prop := ∀ a o, a ≠ b → H a = some o → H' a = some o
theorem Mut.refl (b : Addr) (H : Hp) : Mut b H H := fun _ _ _ h => h
theorem Mut.trans {b : Addr} {H H1 H2 : Hp} (x : Mut b H H1) (y : Mut b H1 H2) : Mut b H H2 := fun a o z h => y a o z (x a o z h)
theorem Mut.of {b : Addr} {H H1 : Hp} (x : Ex H H1) : Mut b H H1 := fun a o _ h => x a o h
theorem Mut.upd {b : Addr} {H H1 : Hp} {o : HO} (x : Mut b H H1) : Mut b H (L2.upd H1 b o) := fun a u z h => by
  rw [upd_ne z]
  exact x a u z h
theorem Mut.new {b p : Addr} {H H1 : Hp} {o : HO} (x : Mut b H H1) (h : H1 p = none) : Mut b H (L2.upd H1 p o) := x.trans (Mut.of (Ex.new h))
theorem Mut.acc {b D : Addr} {H H1 : Hp} {o : HO} (x : Mut b H H1) (h : H D = none) : Mut b H (L2.upd H1 D o) := fun a u z q => by
  rw [upd_ne (ne_of_none q h)]
  exact x a u z q
theorem Ex.mu {b : Addr} {G H H1 : Hp} (e : Ex G H) (g : G b = none) (m : Mut b H H1) : Ex G H1 := fun a o h => m a o (fun z => by
  subst z
  rw [g] at h
  cases h) (e a o h)
section
variable {K : PySem.W.Frag} {σ : L2.St} {G H : Hp} {Q : VK} {ta tb : TE} {x y v : V} {i j n : Int}
theorem q_yes {Q : Bool → Hp → Prop} (h : Q true H) : tYes σ H Q := h
theorem line_lt {n : Nat} (h : n < 1000001) : n < sizeLine := Nat.lt_of_lt_of_le h (by decide)
theorem line_lt2 {n : Nat} (h : Nat.ble (n + 1) 100000 = true) : n < sizeLine := Nat.lt_of_lt_of_le (Nat.le_of_ble_eq_true h) (by decide)
theorem q_chain {tc : TE} {r r' : R2} (h : ta σ H fun x H1 => tb σ H1 fun y H2 => r x y H2 fun z H3 => ∃ k, z = .bl k ∧ (if k = true then tc σ H3 fun w' H4 => r' y w' H4 Q else Q (.bl false) H3)) : tChain r r' ta tb tc σ H Q := h
theorem q_m1 {r : V → List V → Hp → VK → Prop} (h : ta σ H fun x H1 => (∃ a, x = .str a) ∧ tb σ H1 fun y H2 => r x [y] H2 Q) : tM1 r ta tb σ H Q := h
theorem q_ixS {z : Str} (hz : z.length ≤ sizeLine) (h0 : 0 ≤ i) (h1 : i < (z.length : Nat)) (q : ∀ c : Nat, Q (.str ⟨#[c]⟩) H) : rIx K (.str z) (.int i) H Q := by
  obtain ⟨k, rfl⟩ := Int.eq_ofNat_of_zero_le h0
  have hk : k < z.cps.toList.length := by
    have e : z.cps.toList.length = z.length := by rw [Array.length_toList] <;> rfl
    omega
  exact .inr (.inr ⟨z, k, _, rfl, rfl, hz, atI_nat (List.getElem?_eq_getElem hk), q _⟩)
theorem q_ixLn {a : Addr} {xs : List V} (h : SqL K H a xs) (h0 : 0 ≤ i) (h1 : i < (xs.length : Nat)) (q : ∀ v, v ∈ xs → Q v H) : rIx K (.ref a) (.int i) H Q := by
  obtain ⟨k, rfl⟩ := Int.eq_ofNat_of_zero_le h0
  have hk : k < xs.length := by omega
  exact q_ixL h (atI_nat (List.getElem?_eq_getElem hk)) (q _ (List.getElem_mem hk))
theorem q_join {a : Addr} {s : Str} {ys : List Str} (h : SqL K H a (ys.map V.str)) (hl : (ys.map (·.length)).sum + ys.length * s.length ≤ 16777216) (q : Q (.str (Txt.join s ys)) H) : rJoinA K (.str s) [.ref a] H Q := ⟨s, a, ys, rfl, rfl, .inl h, hl, q⟩
end
/-! what stands in a heap that grew -/
theorem upd_old {H : Hp} {a p : Addr} {o u : HO} (h : H a = some u) (hp : H p = none) : L2.upd H p o a = some u := by
  rw [upd_ne (ne_of_none h hp)]
  exact h
theorem upd_mu {H : Hp} {a b : Addr} {o u : HO} (h : H a = some u) (ne : a ≠ b) : L2.upd H b o a = some u := by
  rw [upd_ne ne]
  exact h
theorem Ex.ap {H H' : Hp} {a : Addr} {o : HO} (e : Ex H H') (h : H a = some o) : H' a = some o := e a o h
section
variable {K : PySem.W.Frag} {H : Hp} {Q : VK} {a b : Addr} {xs ys : List V} {v : V}
theorem q_cat (h1 : H a = some (.lst xs)) (h2 : H b = some (.lst ys)) (hl : xs.length + ys.length ≤ sizeLine) (q : ∀ p, H p = none → Q (.ref p) (L2.upd H p (.lst (xs ++ ys)))) : rAddA K (.ref a) (.ref b) H Q := .inr (.inl ⟨a, b, xs, ys, rfl, rfl, h1, h2, hl, q⟩)
theorem q_append (h : H a = some (.lst xs)) (hl : xs.length < sizeLine) (q : Q .non (L2.upd H a (.lst (xs ++ [v])))) : rAppend (.ref a) [v] H Q := ⟨a, xs, v, rfl, rfl, h, hl, q⟩
theorem q_bm {T : String} {r : V → List V → Hp → VK → Prop} {to : TE} {t : TA} {σ : L2.St} (h : to σ H fun x H1 => tyV K T x H1 ∧ t σ H1 fun xs H2 => r x xs H2 Q) : tBM K T r to t σ H Q := h
theorem q_bm0 {T : String} {r : V → List V → Hp → VK → Prop} {to : TE} {σ : L2.St} (h : to σ H fun x H1 => tyV K T x H1 ∧ r x [] H1 Q) : tBM0 K T r to σ H Q := h
theorem q_tyL {R : Prop} (h : H a = some (.lst xs)) (r : R) : tyV K "list" (.ref a) H ∧ R := ⟨.inl ⟨rfl, xs, .inl (.inl h)⟩, r⟩
end
/-! the rules, the module's facts named -/
section
variable {X : Cx} {K : PySem.W.Frag} {e : Expr} {ta tb : TE}
theorem op_addK (h : X.K = K) : OpR X (binaryOp .Add) (rAddA K) := h ▸ op_addA
theorem op_mulK (h : X.K = K) : OpR X (binaryOp .Mult) (rMulA K) := h ▸ op_mulA
theorem op_eqK (h : X.K = K) (u : X.A.units + 64 < cLine) : OpR X (compareOp .Eq) (rEqA K) := h ▸ op_eqA u
theorem op_neK (h : X.K = K) (u : X.A.units + 64 < cLine) : OpR X (compareOp .NotEq) (rNeA K) := h ▸ op_neA u
theorem op_inK (h : X.K = K) (u : X.A.units + 65 < cLine) : OpR X (compareOp .In) (rInA K) := h ▸ op_inA u
theorem op_niK (h : X.K = K) (u : X.A.units + 65 < cLine) : OpR X (compareOp .NotIn) (rNiA K) := h ▸ op_niA u
theorem ix_seqK (h : X.K = K) : IxR X (rIx K) := h ▸ ix_seq
theorem sl_anyK (h : X.K = K) : SlR X (rSlAny K) := h ▸ sl_anyA
theorem call_lenK (h : X.K = K) : CallR X (.builtin "len") (rLenA K) := h ▸ call_lenA
theorem call_listK (h : X.K = K) : CallR X (.type "list") (rListA K) := h ▸ call_listA
theorem call_tupK (h : X.K = K) : CallR X (.type "tuple") (rTupA K) := h ▸ call_tupA
theorem call_isiQ (h : X.K = K) : CallR X (.builtin "isinstance") (rIsi K) := h ▸ call_isi
theorem call_isiTQ (h : X.K = K) : CallR X (.builtin "isinstance") (rIsiT K) := h ▸ call_isiT
theorem call_isXK (h : X.K = K) : CallR X (.builtin "isinstance") (rIsX K) := h ▸ call_isX
theorem pe_joinK {o : Expr} {to : TE} {apos pos : Pos} (h : X.K = K) (ho : PE X o to) (he : PE X e ta) (hs : starEach [e] X.env = [(false, eval e X.env)] := by rfl) (hbase : attributeBase o "join" X.env (eval o X.env) = eval o X.env := by rfl) (hline : (apos.endLine == pos.line) = true := by rfl) :
    PE X (.Call (.Attribute o "join" apos) [e] [] pos) (tM1 (rJoinA K) to ta) := h ▸ pe_joinA ho he hs hbase hline
theorem pe_bmK {T id : String} {name : Str} {r : V → List V → Hp → VK → Prop} {o : Expr} {es : List Expr} {to : TE} {t : TA} {apos cpos : Pos} (h : X.K = K) (pa : PlainAttrs T) (slot : Slot T name id) (hty : typeOf (.builtin id) = pure (.type "method_descriptor")) (hm : MtR X id r) (ho : PE X o to) (ha : PA X (e :: es) t)
    (hbase : attributeBase o name X.env (eval o X.env) = eval o X.env := by rfl)
    (hfew : ((backTo cpos (starEach (e :: es) X.env)).all (fun x => !x.1) && (backToKw cpos (keywordEach [] X.env)).all (fun x => x.1.isSome)
      && decide ((e :: es).length + ([] : List Keyword).length + (if ([] : List Keyword).isEmpty then 0 else 1) < 30)) = true := by rfl)
    (hline : (apos.endLine == cpos.line) = true := by rfl) (hs : starEach (e :: es) X.env = (false, eval e X.env) :: starEach es X.env := by rfl) (hplain : (backTo cpos (starEach es X.env)).any (·.1) = false := by rfl) : PE X (.Call (.Attribute o name apos) (e :: es) [] cpos) (tBM K T r to t) :=
  h ▸ pe_bm pa slot hty hm ho ha hbase hfew hline hs hplain
theorem pe_bm0K {T id : String} {name : Str} {r : V → List V → Hp → VK → Prop} {o : Expr} {to : TE} {apos cpos : Pos} (h : X.K = K) (pa : PlainAttrs T) (slot : Slot T name id) (hty : typeOf (.builtin id) = pure (.type "method_descriptor")) (hm : MtR X id r) (ho : PE X o to)
    (hbase : attributeBase o name X.env (eval o X.env) = eval o X.env := by rfl) (hline : (apos.endLine == cpos.line) = true := by rfl) : PE X (.Call (.Attribute o name apos) [] [] cpos) (tBM0 K T r to) := h ▸ pe_bm0 pa slot hty hm ho hbase hline
theorem pi_seqK {tg : Expr} (h : X.K = K) (he : PE X e ta) : PI X tg e (iSeqA K ta) := h ▸ pi_seqA he
theorem pe_xatK {pos : Pos} {n : Str} (h : X.K = K) (he : PE X e ta) (hb : attributeBase e n X.env (eval e X.env) = eval e X.env := by rfl) : PE X (.Attribute e n pos) (tXat K n ta) := h ▸ pe_xat he hb
end
/-! exceptions, read -/
section
variable {X : Cx} {K : PySem.W.Frag} {mg : Str → Option Value} {σ : L2.St} {H : Hp} {Q : VK} {D : Ends} {ta : TE} {ts : TA} {x fld f : Str} {C a : Addr} {cls c : Value} {d : Option Addr} {v : V} {Wout W : WX} {su : Suite} {l : List (Value × Suite)} {i : Nat}
theorem Xn.xf (T : Xn K mg x fld C) : XfC K C ∧ PySem.W.findIn K (.ref C) fld = some none := by
  obtain ⟨_, fI, st, qual, fd, T, _, _⟩ := T
  exact ⟨T.xf, T.no⟩
def tTryA (K : PySem.W.Frag) (Wout : WX) (tb : WX → TS) (l : List (Value × Suite)) : TS := fun D σ H => tb (wMany K Wout D l) D σ H
theorem ps_tryK {body : List Stmt} {h₀ : ExceptHandler} {hds : List ExceptHandler} {pos : Pos} {tb : WX → TS} (h : X.K = K) (hs : X.stack = X.env :: X.outer) (hf : X.env.frame = some X.env.locals) (tk : Takes X Wout)
    (hb : ∀ (W : WX) (pn : List (Addr × Obj)) (xe : Value → Shared → Prop), Takes (X.tr pn xe) W → PassesOwn (model X.prog X.w) X.A X.env xe → PSs (X.tr pn xe) body (tb W)) (hh : HdsA X (h₀ :: hds) l) : PS X (.Try body (h₀ :: hds) [] [] pos) (tTryA K Wout tb l) := h ▸ ps_tryA hs hf tk hb hh
theorem q_tryA {tb : WX → TS} (h : tb (wMany K Wout D l) D σ H) : tTryA K Wout tb l D σ H := h
theorem q_callS {sp : Sp} {E : L2.St → XK} (h : ts σ H fun vs H1 => sp vs H1 Q (E σ)) : tCallS sp E ts σ H Q := h
theorem q_wY (hb : PySem.W.exmOne K cls c = some true) (h : ∀ a, H a = none → su a cls d D σ H) : wMany K Wout D ((c, su) :: l) cls d σ H := ⟨true, hb, fun _ => h, fun z => nomatch z⟩
theorem q_wN (hb : PySem.W.exmOne K cls c = some false) (h : wMany K Wout D l cls d σ H) : wMany K Wout D ((c, su) :: l) cls d σ H := ⟨false, hb, (fun z => nomatch z), fun _ => h⟩
theorem q_as {t : Suite} (h : t a cls d { nx := fun z G => D.nx (z.set i none) G, rt := D.rt, bk := fun z G => D.bk (z.set i none) G, ct := fun z G => D.ct (z.set i none) G } (σ.set i (some (.ref a))) H) : asS i t a cls d D σ H := h
theorem q_xfV {dd : Addr} {fs : List (Str × V)} {k : Nat} (h : σ[k]? = some (some (.ref a))) (hd : H dd = some (.xd fs)) (hl : fs.lookup f = some v) (q : Q v H) : tXf a (.ref C) (some dd) C f (tVar k) σ H Q := ⟨.ref a, h, rfl, rfl, dd, fs, v, rfl, hd, hl, q⟩
theorem q_xat (h : ta σ H fun x H1 => rXat K f x H1 Q) : tXat K f ta σ H Q := h
theorem lk1 : List.lookup f [(f, v)] = some v := by simp [List.lookup]
theorem q_xatE {d' : Addr} (T : Xn K mg x f C) (ha : H a = some (ExH C d' a)) (hd : H d' = some (.xd [(f, v)])) (q : Q v H) :
    rXat K f (.ref a) H Q := ⟨a, C, d', _, v, rfl, ha, T.xf.1, T.xf.2, hd, lk1, q⟩
theorem q_xatF {d' : Addr} (ha : H a = some (ExH C d' a)) (hd : H d' = some (.xd [(f, v)])) (T : Xn K mg x f C) (q : Q v H) : rXat K f (.ref a) H Q := q_xatE T ha hd q
theorem q_isXe {d' : Addr} {u : V} {b : Bool} {H0 : Hp} (T : Xn K mg x f C) (ha : H0 a = some (ExH C d' a)) (hd : H0 d' = some (.xd [(f, v)])) (e : Ex H0 H) {w : Value} (hc : ClsV u w) (hk : PySem.W.kitOne K (.ref C) w = some b) (q : Q (.bl b) H) : rIsX K [.ref a, u] H Q := by
  obtain ⟨_, fI, st, qual, fd, T, _, _⟩ := T
  exact ⟨a, C, d', fI, f, _, u, w, b, rfl, e _ _ ha, e _ _ hd, T, hc, hk, q⟩
theorem q_isX {d' : Addr} {u : V} {b : Bool} (T : Xn K mg x f C) (ha : H a = some (ExH C d' a)) (hd : H d' = some (.xd [(f, v)])) {w : Value} (hc : ClsV u w) (hk : PySem.W.kitOne K (.ref C) w = some b) (q : Q (.bl b) H) : rIsX K [.ref a, u] H Q := by
  obtain ⟨_, fI, st, qual, fd, T, _, _⟩ := T
  exact ⟨a, C, d', fI, f, _, u, w, b, rfl, ha, hd, T, hc, hk, q⟩
theorem q_raise (h : ts σ H fun vs H1 => ∃ v, vs = [v] ∧ ∀ d, H1 d = none → W (.ref C) (some d) σ (upd H1 d (.xd [(fld, v)]))) : tRaiseX C fld W ts D σ H := h
theorem q_mkOne {R : V → Prop} (h : R v) : ∃ u, [v] = [u] ∧ R u := ⟨v, rfl, h⟩
theorem q_new (h : ts σ H fun vs H1 => ∃ v, vs = [v] ∧ ∀ d e, H1 d = none → H1 e = none → e ≠ d → Q (.ref e) (upd (upd H1 d (.xd [(fld, v)])) e (ExH C d e))) : tNewX C fld ts σ H Q := h
theorem q_newE (h : ts σ H fun vs H1 => ∃ v, vs = [v] ∧ ∀ d e H2, Ex H1 H2 → H2 d = some (.xd [(fld, v)]) → H2 e = some (ExH C d e) → Q (.ref e) H2) (mono : ∀ R R' : List V → Hp → Prop, (∀ vs G, R vs G → R' vs G) → ts σ H R → ts σ H R') : tNewX C fld ts σ H Q := by
  refine mono _ _ (fun vs H1 ⟨v, e1, k⟩ => ⟨v, e1, fun d e hd he ne => ?_⟩) h
  have h2 : upd H1 d (.xd [(fld, v)]) e = none := by
    rw [upd_ne ne]
    exact he
  exact k d e _ ((Ex.new hd).trans (Ex.new h2)) (by rw [upd_ne (Ne.symm ne)]; exact upd_same) upd_same
/-- .. of one value that is read by a variable -/
theorem q_newV {j : Nat} (hj : σ[j]? = some (some v)) (h : ∀ d e H2, Ex H H2 → H2 d = some (.xd [(fld, v)]) → H2 e = some (ExH C d e) → Q (.ref e) H2) : tNewX C fld (tCons (tVar j) tNil) σ H Q :=
  q_newE ⟨v, hj, v, rfl, h⟩ fun R R' k ⟨u, hu, r⟩ => ⟨u, hu, k _ _ r⟩
theorem pe_callX0 {k : Nat} {ps : List Str} {sp : Sp} {e : Expr} {es : List Expr} {p pos : Pos} (C : CalX X.prog X.w X.K X.mg X.base k x ps sp) (hr : Room k X.A) (hg : Gl X x) (ha : PA X (e :: es) ts)
    (hdb : (x == ("__debug__" : Str)) = false := by decide) (he : starEach (e :: es) X.env = (false, eval e X.env) :: starEach es X.env := by rfl) (hpl : (backTo pos (starEach es X.env)).any (·.1) = false := by rfl) :
    PE X (.Call (.Name x p) (e :: es) [] pos) (tCallS sp (fun _ => E0) ts) := pe_callXC C hr hg (fun σ pins H s e s' _ c => by
  obtain ⟨_, _, _, _, _, _, _, _, _, _, _, _, z⟩ := c
  exact z.elim) ha hdb he hpl
end
/-- a def's promise, as the end wants it -/
theorem fnok_of {P : Program} {w : World} {K : PySem.W.Frag} {mg : Str → Option Value} {base : Heap} {x : Str} {st : Stmt} {f : Addr} {fd : FuncData} {N ps : List Str} {k : Nat} {sp : Sp} (F : FnP K x st f fd) (S : FnScope N ps (defScope st)) (len : ∀ vs H Q E, sp vs H Q E → vs.length = ps.length)
    (body : ∀ (cdv : Value) (A : Around) (outer : List Env) (s : Shared) (H : Hp) (vs : List V) (Q : VK) (E : XK), Room k (A.deeper (envOfC x (defScope st) s.heap.objs.size f cdv)) → sp vs H Q E →
      ∃ t σ, PSs (cxOf CX0 P w K mg base N x (defScope st) f cdv A outer s H E).nox (defBody st) t ∧ start N vs = σ ∧ t { nx := fun _ H' => Q .non H', rt := Q } σ H) : FnOk P w K mg base CX0 (k + 1) f fd ps sp :=
  FunD.ok F S len (fun cdv A outer s H vs Q E hr h => by
    obtain ⟨t, σ, h1, rfl, h2⟩ := body cdv A outer s H vs Q E hr h
    exact ⟨t, PSs.nox h1, h2⟩)
theorem sum_ones : ∀ {ys : List Str}, (∀ y ∈ ys, y.length = 1) → (ys.map (·.length)).sum = ys.length
  | [], _ => rfl
  | y :: ys, h => by
    rw [List.map_cons, List.sum_cons, h y (List.mem_cons_self ..), sum_ones (ys := ys) (fun z hz => h z (List.mem_cons_of_mem _ hz)), List.length_cons, Nat.add_comm]
end Cw

set_option maxHeartbeats 4000000
/-! plain data: what the program's tests tell of it -/
namespace Cw
open PySem PySem.Spec PyProof.Rows L2
/-- data of at most n levels of lists and tuples, none too long -/
def okD : Nat → PyData → Bool
  | _, .none => true
  | _, .bool _ => true
  | _, .int _ => true
  | _, .str z => PyData.strOk z && decide (z.length ≤ 100000)
  | n + 1, .list ds => decide (ds.length ≤ 100000) && ds.all (okD n)
  | n + 1, .tuple ds => decide (ds.length ≤ 100000) && ds.all (okD n)
  | 0, .list _ => false
  | 0, .tuple _ => false
  | _, .dict _ => false
theorem okD_up : ∀ {n : Nat} {d : PyData}, okD n d = true → okD (n + 1) d = true
  | _, .none, _ => by rw [okD]
  | _, .bool _, _ => by rw [okD]
  | _, .int _, _ => by rw [okD]
  | n, .str z, h => by
    rw [okD] at h ⊢
    exact h
  | n + 1, .list ds, h => by
    rw [okD] at h ⊢
    obtain ⟨h1, h2⟩ := bA h
    rw [h1, Bool.true_and, List.all_eq_true]
    exact fun d m => okD_up (List.all_eq_true.mp h2 d m)
  | n + 1, .tuple ds, h => by
    rw [okD] at h ⊢
    obtain ⟨h1, h2⟩ := bA h
    rw [h1, Bool.true_and, List.all_eq_true]
    exact fun d m => okD_up (List.all_eq_true.mp h2 d m)
  | 0, .list _, h => by
    rw [okD] at h
    cases h
  | 0, .tuple _, h => by
    rw [okD] at h
    cases h
  | 0, .dict _, h => by
    rw [okD] at h
    cases h
  | _ + 1, .dict _, h => by
    rw [okD] at h
    cases h
theorem okD_le {n m : Nat} {d : PyData} (h : okD n d = true) (e : n ≤ m) : okD m d = true := by
  induction e with
  | refl => exact h
  | step _ ih => exact okD_up ih
theorem canAll_of : ∀ {ds : List PyData}, (∀ d ∈ ds, PyData.canLay0 d = true) → PyData.canLayAll0 ds = true
  | [], _ => by rw [PyData.canLayAll0]
  | e :: ds, h => by
    rw [PyData.canLayAll0, h e (List.mem_cons_self ..), canAll_of (fun d m => h d (List.mem_cons_of_mem _ m))] <;> rfl
theorem depAll_of {n : Nat} : ∀ {ds : List PyData}, (∀ d ∈ ds, d.depth ≤ n) → PyData.depthAll ds ≤ n
  | [], _ => by
    rw [PyData.depthAll]
    exact Nat.zero_le n
  | e :: ds, h => by
    rw [PyData.depthAll]
    exact Nat.max_le.mpr ⟨h e (List.mem_cons_self ..), depAll_of (fun d m => h d (List.mem_cons_of_mem _ m))⟩
theorem okD_lay : ∀ {n : Nat} {d : PyData}, okD n d = true → PyData.canLay0 d = true ∧ d.depth ≤ n
  | _, .none, _ => by rw [PyData.canLay0, PyData.depth]; exact ⟨rfl, Nat.zero_le _⟩
  | _, .bool _, _ => by rw [PyData.canLay0, PyData.depth]; exact ⟨rfl, Nat.zero_le _⟩
  | _, .int _, _ => by rw [PyData.canLay0, PyData.depth]; exact ⟨rfl, Nat.zero_le _⟩
  | n, .str z, h => by
    rw [okD] at h
    rw [PyData.canLay0, PyData.depth]
    exact ⟨(bA h).1, Nat.zero_le _⟩
  | n + 1, .list ds, h => by
    rw [okD] at h
    have h2 := List.all_eq_true.mp (bA h).2
    rw [PyData.canLay0, PyData.depth]
    exact ⟨canAll_of fun d m => (okD_lay (h2 d m)).1, Nat.succ_le_succ (depAll_of fun d m => (okD_lay (h2 d m)).2)⟩
  | n + 1, .tuple ds, h => by
    rw [okD] at h
    have h2 := List.all_eq_true.mp (bA h).2
    rw [PyData.canLay0, PyData.depth]
    exact ⟨canAll_of fun d m => (okD_lay (h2 d m)).1, Nat.succ_le_succ (depAll_of fun d m => (okD_lay (h2 d m)).2)⟩
  | 0, .list _, h => by
    rw [okD] at h
    cases h
  | 0, .tuple _, h => by
    rw [okD] at h
    cases h
  | 0, .dict _, h => by
    rw [okD] at h
    cases h
  | _ + 1, .dict _, h => by
    rw [okD] at h
    cases h
theorem okD_sm : ∀ {n : Nat} {d : PyData}, okD n d = true → Sm (n + 1) d
  | _, .none, _ => True.intro
  | _, .bool _, _ => True.intro
  | _, .int _, _ => True.intro
  | _, .str _, _ => True.intro
  | n + 1, .list ds, h => by
    rw [okD] at h
    obtain ⟨h1, h2⟩ := bA h
    exact ⟨Nat.le_trans (of_decide_eq_true h1) (by decide), fun d m => okD_sm (List.all_eq_true.mp h2 d m)⟩
  | n + 1, .tuple ds, h => by
    rw [okD] at h
    obtain ⟨h1, h2⟩ := bA h
    exact ⟨Nat.le_trans (of_decide_eq_true h1) (by decide), fun d m => okD_sm (List.all_eq_true.mp h2 d m)⟩
  | 0, .list _, h => by
    rw [okD] at h
    cases h
  | 0, .tuple _, h => by
    rw [okD] at h
    cases h
  | 0, .dict _, h => by
    rw [okD] at h
    cases h
  | _ + 1, .dict _, h => by
    rw [okD] at h
    cases h
/-- data that may be handed about -/
def Shp (d : PyData) : Prop := okD 60 d = true
theorem Shp.shaped {d : PyData} (h : Shp d) : SeqAt.shaped d = true := by
  obtain ⟨h1, h2⟩ := okD_lay h
  unfold SeqAt.shaped
  rw [h1, decide_eq_true (Nat.le_trans h2 (by decide))] <;> rfl
theorem shp_int (i : Int) : Shp (.int i) := by unfold Shp; rw [okD]
theorem shp_none : Shp .none := by unfold Shp; rw [okD]
theorem shp_bool (b : Bool) : Shp (.bool b) := by unfold Shp; rw [okD]
theorem shp_str {z : Str} (h : Shp (.str z)) : z.length ≤ 100000 := by
  unfold Shp at h
  rw [okD] at h
  exact of_decide_eq_true (bA h).2
theorem shp_mem {d : PyData} {ds : List PyData} (e : d = .list ds ∨ d = .tuple ds) (h : Shp d) : ∀ x ∈ ds, Shp x := fun x m => by
  unfold Shp at h ⊢
  rcases e with rfl | rfl
  · rw [okD] at h
    exact okD_up (List.all_eq_true.mp (bA h).2 x m)
  · rw [okD] at h
    exact okD_up (List.all_eq_true.mp (bA h).2 x m)
theorem shp_len {d : PyData} {ds : List PyData} (e : d = .list ds ∨ d = .tuple ds) (h : Shp d) : ds.length ≤ 100000 := by
  unfold Shp at h
  rcases e with rfl | rfl
  · rw [okD] at h
    exact of_decide_eq_true (bA h).1
  · rw [okD] at h
    exact of_decide_eq_true (bA h).1
/-! readings -/
def items : PyData → Option (List PyData)
  | .list ds => some ds
  | .tuple ds => some ds
  | _ => none
def isNum : PyData → Bool
  | .int i => decide (0 ≤ i)
  | _ => false
def isBelow (n : Int) : PyData → Bool
  | .int i => decide (0 ≤ i) && decide (i < n)
  | _ => false
def isRow (n : Int) (d : PyData) : Bool := match items d with
  | some ds => decide ((ds.length : Int) = n)
  | none => false
theorem isRow_ex {n : Int} {d : PyData} (h : isRow n d = true) : ∃ ds, (d = .list ds ∨ d = .tuple ds) ∧ (ds.length : Int) = n := by
  cases d with
  | list ds => exact ⟨ds, .inl rfl, of_decide_eq_true h⟩
  | tuple ds => exact ⟨ds, .inr rfl, of_decide_eq_true h⟩
  | _ => cases h
/-! promises of tests -/
def sp1 (K : PySem.W.Frag) (t : PyData → Bool) : Sp := fun vs H Q _ => ∃ (G : Hp) (v : V) (d : PyData), vs = [v] ∧ Ex G H ∧ Rp K G v d ∧ Shp d ∧ ∀ H', Ex H H' → Q (.bl (t d)) H'
def sp2 (K : PySem.W.Frag) (t : Int → PyData → Bool) : Sp := fun vs H Q _ => ∃ (G : Hp) (v : V) (n : Int) (d : PyData), vs = [v, .int n] ∧ Ex G H ∧ Rp K G v d ∧ Shp d ∧ ∀ H', Ex H H' → Q (.bl (t n d)) H'
section
variable {K : PySem.W.Frag} {G H : Hp} {Q : VK} {v u : V} {d e : PyData} {ds : List PyData} {i : Int}
theorem q_bt' {b c : Bool} (h : c = b) (q : Q (.bl c) H) : Q (.bl b) H := h ▸ q
/-- == of data -/
theorem q_eqR (hv : Rp K G v d) (hu : Rp K G u e) (x : Ex G H) (hd : Shp d) (he : Shp e) (q : Q (.bl (PyData.eqv d e)) H) : rEqA K v u H Q := .inr ⟨d, e, (Rp.mono x hv).dp, (Rp.mono x hu).dp, hd.shaped, he.shaped, q⟩
theorem q_neR (hv : Rp K G v d) (hu : Rp K G u e) (x : Ex G H) (hd : Shp d) (he : Shp e) (q : Q (.bl (!PyData.eqv d e)) H) : rNeA K v u H Q := .inr ⟨d, e, (Rp.mono x hv).dp, (Rp.mono x hu).dp, hd.shaped, he.shaped, q⟩
/-- an item of a list or a tuple -/
theorem q_ixRS (h : Rp K G v d) (hs : d = .list ds ∨ d = .tuple ds) (x : Ex G H) (hd : atI ds i = some e) (q : ∀ u, Rp K G u e → Q u H) : rIx K v (.int i) H Q := by
  rcases hs with rfl | rfl
  · exact q_ixRL h x hd q
  · exact q_ixRT h x hd q
theorem q_lenRS (h : Rp K G v d) (hs : d = .list ds ∨ d = .tuple ds) (x : Ex G H) (q : Q (.int (ds.length : Nat)) H) : rLenA K [v] H Q := by
  rcases hs with rfl | rfl
  · exact q_lenRL h x q
  · exact q_lenRT h x q
end
/-! in, of any data -/
def rInDT (K : PySem.W.Frag) : R2 := fun x y H Q => ∃ d ds, Dp K H x d ∧ Dp K H y (.tuple ds) ∧ SeqAt.shaped d = true ∧ SeqAt.shaped (.tuple ds) = true ∧ Q (.bl (ds.any fun z => PyData.eqv z d)) H
def rNiDT (K : PySem.W.Frag) : R2 := fun x y H Q => ∃ d ds, Dp K H x d ∧ Dp K H y (.tuple ds) ∧ SeqAt.shaped d = true ∧ SeqAt.shaped (.tuple ds) = true ∧ Q (.bl (!ds.any fun z => PyData.eqv z d)) H
section
variable {X : Cx}
theorem op_inDT (u : X.A.units + 65 < cLine) : OpR X (compareOp .In) (rInDT X.K) := by
  rintro pins s σ H x y v z Q I rx ry ⟨d, ds, hd, he, sd, se, q⟩
  obtain ⟨_, r1⟩ := Dp.reads I d x v hd rx
  obtain ⟨_, r2⟩ := Dp.reads I (.tuple ds) y z he ry
  exact SeqAt.in_tuple_reads r2 r1 (SeqAt.canLay_of_shaped se) (SeqAt.canLay_of_shaped sd) (room_in_shaped sd u) ⟨.bl _, H, I, rfl, q⟩
theorem op_niDT (u : X.A.units + 65 < cLine) : OpR X (compareOp .NotIn) (rNiDT X.K) := by
  rintro pins s σ H x y v z Q I rx ry ⟨d, ds, hd, he, sd, se, q⟩
  obtain ⟨_, r1⟩ := Dp.reads I d x v hd rx
  obtain ⟨_, r2⟩ := Dp.reads I (.tuple ds) y z he ry
  exact SeqAt.notIn_tuple_reads r2 r1 (SeqAt.canLay_of_shaped se) (SeqAt.canLay_of_shaped sd) (room_in_shaped sd u) ⟨.bl _, H, I, rfl, q⟩
end
def rInB (K : PySem.W.Frag) : R2 := fun x y H Q => rInA K x y H Q ∨ rInDT K x y H Q
def rNiB (K : PySem.W.Frag) : R2 := fun x y H Q => rNiA K x y H Q ∨ rNiDT K x y H Q
theorem op_inB {X : Cx} {K : PySem.W.Frag} (h : X.K = K) (u : X.A.units + 65 < cLine) : OpR X (compareOp .In) (rInB K) := h ▸ OpR.or (op_inA u) (op_inDT u)
theorem op_niB {X : Cx} {K : PySem.W.Frag} (h : X.K = K) (u : X.A.units + 65 < cLine) : OpR X (compareOp .NotIn) (rNiB K) := h ▸ OpR.or (op_niA u) (op_niDT u)
section
variable {K : PySem.W.Frag} {G H : Hp} {Q : VK} {v u : V} {d : PyData} {ds : List PyData}
theorem q_inS {c : Nat} {z : Str} (q : Q (.bl (decide (c ∈ z.cps.toList))) H) : rInB K (.str ⟨#[c]⟩) (.str z) H Q := .inl (.inr (.inr ⟨c, z, rfl, rfl, q⟩))
theorem q_inT (hv : Rp K G v d) (hu : Rp K G u (.tuple ds)) (x : Ex G H) (hd : Shp d) (he : Shp (.tuple ds)) (q : Q (.bl (ds.any fun z => PyData.eqv z d)) H) : rInB K v u H Q := .inr ⟨d, ds, (Rp.mono x hv).dp, (Rp.mono x hu).dp, hd.shaped, he.shaped, q⟩
theorem q_inL (hv : Rp K G v d) (hu : Rp K G u (.list ds)) (x : Ex G H) (hd : Shp d) (he : Shp (.list ds)) (q : Q (.bl (ds.any fun z => PyData.eqv z d)) H) : rInB K v u H Q := .inl (.inr (.inl ⟨d, ds, (Rp.mono x hv).dp, (Rp.mono x hu).dp, hd.shaped, he.shaped, q⟩))
theorem q_niT (hv : Rp K G v d) (hu : Rp K G u (.tuple ds)) (x : Ex G H) (hd : Shp d) (he : Shp (.tuple ds)) (q : Q (.bl (!ds.any fun z => PyData.eqv z d)) H) : rNiB K v u H Q := .inr ⟨d, ds, (Rp.mono x hv).dp, (Rp.mono x hu).dp, hd.shaped, he.shaped, q⟩
theorem q_niL (hv : Rp K G v d) (hu : Rp K G u (.list ds)) (x : Ex G H) (hd : Shp d) (he : Shp (.list ds)) (q : Q (.bl (!ds.any fun z => PyData.eqv z d)) H) : rNiB K v u H Q := .inl (.inr (.inl ⟨d, ds, (Rp.mono x hv).dp, (Rp.mono x hu).dp, hd.shaped, he.shaped, q⟩))
end
end Cw

set_option maxHeartbeats 4000000
/-! len(set(texts)), any texts of a list: how many different ones -/
namespace Cw
open PySem PySem.Spec PyProof.Rows L2
theorem snoc_ind {P : List Str → Prop} (h0 : P []) (h1 : ∀ xs v, P xs → P (xs ++ [v])) (xs : List Str) : P xs := by
  have key : ∀ ys : List Str, P ys.reverse := by
    intro ys
    induction ys with
    | nil => exact h0
    | cons v r ih =>
      rw [List.reverse_cons]
      exact h1 _ _ ih
  have := key xs.reverse
  rw [List.reverse_reverse] at this
  exact this
def ddStep (σ : List Str) (v : Str) : List Str := if σ.any (· == v) then σ else σ ++ [v]
def dd (xs : List Str) : List Str := xs.foldl ddStep []
theorem dd_snoc (xs : List Str) (v : Str) : dd (xs ++ [v]) = ddStep (dd xs) v := by
  unfold dd
  rw [List.foldl_append] <;> rfl
theorem dd_take {xs : List Str} {i : Nat} (h : i < xs.length) : dd (xs.take (i + 1)) = ddStep (dd (xs.take i)) (xs.getD i Str.empty) := by
  have e : xs.take (i + 1) = xs.take i ++ [xs.getD i Str.empty] := by
    rw [List.take_add_one, List.getD_eq_getElem?_getD, List.getElem?_eq_getElem h] <;> rfl
  rw [e, dd_snoc]
theorem ddStep_any (σ : List Str) (v k : Str) : (ddStep σ v).any (· == k) = (σ.any (· == k) || decide (k = v)) := by
  unfold ddStep
  by_cases h : σ.any (· == v) = true
  · rw [if_pos h]
    by_cases e : k = v
    · rw [e, h] <;> simp
    · simp [e]
  · rw [if_neg h, List.any_append]
    by_cases e : k = v
    · simp [e]
    · have hb : (v == k) = false := by simpa using fun y : v = k => e y.symm
      simp [hb, e]
theorem ddStep_len (σ : List Str) (v : Str) : (ddStep σ v).length = if σ.any (· == v) then σ.length else σ.length + 1 := by
  unfold ddStep
  split <;> simp
theorem dd_le : ∀ xs : List Str, (dd xs).length ≤ xs.length := by
  refine snoc_ind (Nat.le_refl _) fun xs v ih => ?_
  · rw [dd_snoc, ddStep_len, List.length_append]
    split <;> simp <;> omega
theorem dd_any (k : Str) : ∀ xs : List Str, (dd xs).any (· == k) = xs.any (· == k) := by
  refine snoc_ind rfl fun xs v ih => ?_
  · rw [dd_snoc, ddStep_any, ih, List.any_append]
    by_cases e : k = v
    · simp [e]
    · have hb : (v == k) = false := by simpa using fun y : v = k => e y.symm
      simp [hb, e]
/-- none twice, just if none is lost -/
theorem dd_nodup : ∀ xs : List Str, (dd xs).length = xs.length ↔ xs.Nodup := by
  refine snoc_ind (by simp [dd]) fun xs v ih => ?_
  · have h0 := dd_le xs
    rw [dd_snoc, ddStep_len, dd_any, List.length_append, List.nodup_append]
    by_cases h : xs.any (· == v) = true
    · rw [if_pos h]
      obtain ⟨y, hy, e⟩ := List.any_eq_true.mp h
      have e2 : y = v := eq_of_beq e
      subst e2
      constructor
      · intro z
        simp at z
        omega
      · rintro ⟨_, _, z⟩
        exact absurd rfl (z y hy y (List.mem_singleton.mpr rfl))
    · rw [if_neg h]
      constructor
      · intro z
        refine ⟨ih.mp (by simpa using z), by simp, fun a ha b hb e => ?_⟩
        rw [List.mem_singleton] at hb
        refine h (List.any_eq_true.mpr ⟨a, ha, ?_⟩)
        rw [e, hb]
        simp
      · rintro ⟨z, _, _⟩
        rw [ih.mpr z] <;> simp
section
variable {prog : Program} {w : World} {A : Around} {R : Result → Shared → Prop} {I : Addr} {fp wr : List Addr} {G : Array GenState → Array GenState → Prop} {n : Nat} {P : Nat → Value → Prop} {St : Nat → Shared → Prop}
abbrev SetD (prog : Program) (w : World) (h : Heap) (S : Addr) (xs : List Str) : Prop := h.SetOf (PySem.strKind prog w) S (fun k => (dd xs).any (· == k)) (dd xs).length
theorem setD_at {h h' : Heap} {S : Addr} {xs : List Str} (k : ∀ o, h.get? S = some o → h'.get? S = some o) (x : SetD prog w h S xs) : SetD prog w h' S xs := by
  obtain ⟨o, es, ep, t, ho, rest⟩ := x
  exact ⟨o, es, ep, t, k o ho, rest⟩
/-- the loop that fills the set, from the i-th on -/
theorem set_fill (W : WalksS prog w A.in1 I fp wr G n P St) {S : Addr} (hS : S ∉ fp) {xs : List Str} (hn : xs.length = n) (hb : n + 1 < scanBound) (hv : ∀ i v, P i v → ∃ t, v = .str (xs.getD i Str.empty) t) :
    ∀ (k i : Nat) (s : Shared), n - i = k → i ≤ n → St i s → SetD prog w s.heap S (xs.take i) → (∀ s', Moved (S :: wr) G s s' → SetD prog w s'.heap S xs → R (.ok (.ret .none)) s') →
      codeAny (model prog w) A (.builtin "set.update.loop" ⟨[.ref S, .ref I], []⟩) R s := by
  have nw : S ∉ wr := fun h => hS (W.sub _ h)
  have up : ∀ b ∈ wr, b ∈ S :: wr := fun b h => List.mem_cons_of_mem _ h
  intro k
  induction k with
  | zero =>
    intro i s hk hi st x r
    obtain rfl : i = n := by omega
    refine codeAny_builtin PyProof.Rows.F.entry_set_update_loop ?_
    rw [Around.under_plainId PyProof.Rows.F.plain_set_update_loop _]
    refine wpAny_bind (m := pyNext (.ref I)) (W.done s _ _ st fun s' hm => ?_)
    refine wpAny_pure (r s' (hm.mono up) ?_)
    rw [← hn, List.take_length] at x
    exact setD_at (fun o e => hm.heap S o nw e) x
  | succ k ih =>
    intro i s hk hi st x r
    have lt : i < n := by omega
    refine codeAny_builtin PyProof.Rows.F.entry_set_update_loop ?_
    rw [Around.under_plainId PyProof.Rows.F.plain_set_update_loop _]
    refine wpAny_bind (m := pyNext (.ref I)) (W.item i s _ _ lt st fun v s' hP st' hm => ?_)
    obtain ⟨t, rfl⟩ := hv i v hP
    have x' := setD_at (fun o e => hm.heap S o nw e) x
    refine wpAny_bind (m := holding [Value.str (xs.getD i Str.empty) t] (setAdd S (.str (xs.getD i Str.empty) t))) (wpAny_holding ?_)
    unfold setAdd
    refine wpAny_holding (wpAny_bind ((PySem.strKind prog w).pyHash (k := xs.getD i Str.empty) (strKind_is _ _ _ _) ?_))
    have room : (dd (xs.take i)).length + 1 < scanBound := by
      have h1 := dd_le (xs.take i)
      have h2 : (xs.take i).length ≤ i := by
        rw [List.length_take]
        omega
      omega
    refine wpAny_setAddHashed_of (knd := PySem.strKind prog w) (s := { s' with toks := s'.toks + 1 }) (strKind_is _ _ _ _) rfl x' room fun h' hs x2 => ?_
    have x3 : SetD prog w h' S (xs.take (i + 1)) := PyProof.Rows.SetOf_congr x2 (fun k' => by rw [dd_take (by omega), ddStep_any]) (by rw [dd_take (by omega), ddStep_len])
    refine wpAny_pure ⟨plainId_quiet PyProof.Rows.F.plain_set_update_loop _, ih (i + 1) _ (by omega) lt (W.frame _ s' _ _ st' (Nat.le_succ _) fun b hb' o e => ?_) x3 fun s2 m2 y => ?_⟩
    · rw [hs.2 b fun h : b = S => hS (by rw [← h]; exact hb')]
      exact e
    · refine r s2 (Moved.trans W.gtrans ((hm.mono up).then_heap (Nat.le_succ _) fun b o hb' e => ?_) m2) y
      rw [hs.2 b fun h : b = S => hb' (by rw [h]; exact List.mem_cons_self)]
      exact e
end
section
variable {prog : Program} {w : World} {A : Around} {E : Value → Shared → Prop} {s : Shared}
abbrev emptySet (led : Bool) : Obj := { cls := .type "set", dict := none, data := .set #[] 0 (.fresh 0 0 led) }
set_option maxHeartbeats 8000000 in
/-- set(l), l a list of texts -/
theorem set_of_list {l : Addr} {items : Array Value} {xs : List Str} {Q : Value → Shared → Prop} (hh : A.handled = none) (hl : s.heap.IsList l items) (hi : StrsAre items.toList xs) (hb : xs.length + 1 < scanBound)
    (h : ∀ (h' : Heap) (tk : Nat), SetD prog w h' s.heap.objs.size xs → (∀ b o, b < s.heap.objs.size → s.heap.get? b = some o → h'.get? b = some o) → Q (.ref s.heap.objs.size) { s with heap := h', toks := tk }) :
    wpAny (model prog w) A (call (.type "set") [.ref l]) Q E s := by
  obtain ⟨c, tl, hmro⟩ := PySem.F.called_set.mro
  have hmade := PySem.F.called_set.made
  have hsub := PySem.F.called_set.sub
  refine wpAny_call (codeAny_of_tree ?_)
  show wpAny _ _ (callAny (.type "set") _) _ _ _
  refine wpAny_pure ⟨Code.quiet_builtin _ (by decide +kernel), codeAny_builtin PySem.F.entry_type_call ?_⟩
  rw [Around.under_plain (weight_type_call_type "set" [.ref l] []) rfl]
  have k1 := PySem.F.called_set.notType
  have k2 := PySem.F.called_set.canCreate
  have k3 := PySem.F.typeCall_set_1 (.ref l)
  repeat (any_goals (first | assumption | wp_step))
  refine codeAny_mono (code_set_new_1 (.ref l) (E := E) (Q₁ := fun obj s₁ => ∃ led, obj = .ref s.heap.objs.size ∧ s₁ = { s with heap := s.heap.push (emptySet led) }) fun led => ⟨led, rfl, rfl⟩) fun r s₁ hr => ?_
  cases r with
  | error e => exact hr
  | ok fl =>
   cases fl with
   | next => exact hr.elim
   | brk => exact hr.elim
   | cont => exact hr.elim
   | ret obj =>
    obtain ⟨led, rfl, rfl⟩ := hr
    have there : (s.heap.push (emptySet led)).get? s.heap.objs.size = some (emptySet led) := Heap.get?_push_size _ rfl
    have hT : Shared.TypeIs { s with heap := s.heap.push (emptySet led) } (.ref s.heap.objs.size) "set" := ⟨_, there, rfl⟩
    have k4 := PySem.F.called_set.init.lookup
    have k5 := PySem.F.called_set.init.bind (.ref s.heap.objs.size)
    repeat (any_goals (first | assumption | wp_step))
    refine codeAny_mono (codeAny_call_builtin (R := wants (fun r s₂ => r = .none ∧ ∃ h' tk, s₂ = { s with heap := h', toks := tk } ∧ SetD prog w h' s.heap.objs.size xs ∧
        (∀ b o, b < s.heap.objs.size → s.heap.get? b = some o → h'.get? b = some o)) E) PySem.F.called_set.init.plain PySem.F.entry_set_init (check_set_init_1 hT ?_)) fun r₂ s₂ hr₂ => ?_
    · obtain ⟨⟨oc, od, dt, sl⟩, hol, hcl, nl, hdl⟩ := hl
      simp only at hcl hdl
      subst hcl
      subst hdl
      have hl1 : (s.heap.push (emptySet led)).IsList l items := ⟨_, Heap.get?_push_of_some _ hol, rfl, nl, rfl⟩
      have hlS : l < s.heap.objs.size := Heap.lt_size hol
      have hol' := Heap.get?_push_of_some (emptySet led) hol
      have k6 := PySem.F.sub_list_set
      have k7 := PySem.F.sub_list_frozenset
      have k8 : (Value.type "list" == Value.type "dict") = false := by decide
      unfold Builtin.«set.__init__» noKeywords Builtin.Frozenset.updateFrom
      generalize hPI : pyIter = PI
      wp_walk
      subst hPI
      refine wpAny_pyIter_list hl1 (wpAny_bind (wpAny_runValue ?_))
      have h3 : A.in1.in1.in1.handled = none := by simp [hh]
      have ne1 : l ≠ (s.heap.push (emptySet led)).objs.size := by
        rw [Heap.size_push]
        exact Nat.ne_of_lt (Nat.lt_succ_of_lt hlS)
      have ne2 : s.heap.objs.size ∉ [(s.heap.push (emptySet led)).objs.size, l] := by
        rw [Heap.size_push]
        intro z
        rcases List.mem_cons.mp z with z | z
        · exact Nat.ne_of_lt (Nat.lt_succ_self _) z
        · exact Nat.ne_of_gt hlS (List.mem_singleton.mp z)
      have len : items.size = xs.length := by
        rw [← Array.length_toList]
        exact hi.length
      refine set_fill ((Walks.list h3 _ l ne1 items).toS) ne2 len.symm (by omega) (fun i v hv => SS.strs_at hi i v (by rw [Array.getElem?_toList]; exact hv)) (items.size - 0) 0 _ (by omega) (Nat.zero_le _) ⟨⟨_, Heap.get?_push_size _ rfl, rfl, rfl⟩, (hl1.push _)⟩ ?_ ?_
      · have got : ((s.heap.push (emptySet led)).push { cls := .type "list_iterator", data := .fields #[.ref l, .int 0 0] }).get? s.heap.objs.size = some (emptySet led) := Heap.get?_push_of_some _ there
        exact PyProof.Rows.SetOf_congr ((PyProof.Rows.setObjOf_fresh (knd := PySem.strKind prog w) led).setOf got (by unfold scanBound; omega)) (fun _ => rfl) rfl
      · intro s' hm x
        obtain ⟨h', g', d', tk', os'⟩ := s'
        obtain rfl : g' = s.gens := hm.gens
        obtain rfl : d' = s.drawn := hm.drawn
        obtain rfl : os' = s.os := hm.os
        refine wpAny_pure (wpAny_pure (Q := fun r z => _) ⟨rfl, h', tk', rfl, x, fun b o hb e => ?_⟩)
        refine hm.heap b o ?_ (Heap.get?_push_of_some _ (Heap.get?_push_of_some _ e))
        intro z
        rcases List.mem_cons.mp z with z | z
        · exact Nat.ne_of_lt hb z
        · rw [List.mem_singleton.mp z, Heap.size_push] at hb
          exact absurd hb (Nat.not_lt.mpr (Nat.le_succ _))
    · cases r₂ with
      | error e => exact hr₂
      | ok fl₂ =>
       cases fl₂ with
       | next => exact hr₂.elim
       | brk => exact hr₂.elim
       | cont => exact hr₂.elim
       | ret r =>
        obtain ⟨rfl, h', tk, rfl, x, k⟩ := hr₂
        repeat (any_goals (first | assumption | wp_step))
        exact h _ _ x k
end
def tLenSetA (K : PySem.W.Frag) (ta : TE) : TE := fun σ H Q => ta σ H fun x H1 => ∃ (l : Addr) (xs : List Str), x = .ref l ∧ SqL K H1 l (xs.map V.str) ∧ xs.length ≤ 4000 ∧ Q (.int ((dd xs).length : Nat)) H1
theorem pe_lenSetA {X : Cx} {K : PySem.W.Frag} {a : Expr} {ta : TE} {p p2 q pos : Pos} (hK : X.K = K) (hc : X.calm = true) (hg : Gl X "len") (hm : X.mg "len" = none) (hg2 : Gl X "set") (hm2 : X.mg "set" = none) (ha : PE X a ta)
    (na : starEach [a] X.env = (false, eval a X.env) :: starEach [] X.env := by rfl) : PE X (.Call (.Name "len" p) [.Call (.Name "set" p2) [a] [] q] [] pos) (tLenSetA K ta) := by
  subst hK
  refine ⟨fun pins s σ H Q I h => ?_⟩
  refine Call_ (ld_blt I hg hm boot_len (PyProof.Rows.callWith_builtin1 (PyProof.Rows.args_cons (Call_ (ld_blt I hg2 hm2 boot_set ?_)) rfl) rfl rfl))
  refine PyProof.Rows.callWith_type1 (PyProof.Rows.args_cons (thn (ha.run pins s σ H _ I h) fun v s1 ⟨x, H1, I1, r1, q1⟩ => PyProof.Rows.args_nil ?_) na) na rfl
  obtain ⟨l, xs, rfl, hq, hl, q1⟩ := q1
  cases r1
  obtain ⟨its, r, pl, hz⟩ := I1.list hq
  refine set_of_list (I1.ok.hd hc) pl.isList (by simpa using strsAre_of r) (by unfold scanBound; omega) fun h' tk x k => PyProof.Rows.args_nil ?_
  have hd := dd_le xs
  obtain ⟨o, es, ep, t, ho, hex, hdt, _, _, _, hf, hn⟩ := x
  have I2 : Inv X pins σ H1 { s1 with heap := h', toks := tk } := I1.kept fun b o e => k b o (Heap.lt_size e) e
  exact call_len_set ho hex hdt hf (by rw [hn]; omega) ⟨.int ((dd xs).length : Nat), H1, I2.tok _, ⟨_, by rw [hn]⟩, q1⟩
theorem q_lenSet {K : PySem.W.Frag} {ta : TE} {σ : L2.St} {H : Hp} {Q : VK} (h : ta σ H fun x H1 => ∃ (l : Addr) (xs : List Str), x = .ref l ∧ SqL K H1 l (xs.map V.str) ∧ xs.length ≤ 4000 ∧ Q (.int ((dd xs).length : Nat)) H1) : tLenSetA K ta σ H Q := h
end Cw

set_option maxHeartbeats 4000000
/-! instances: made, their fields read; the constants of a module -/
namespace Cw
open PySem PySem.Spec PyProof.Rows L2
def rFld (K : PySem.W.Frag) (f : Str) : V → Hp → VK → Prop := fun x H1 Q => ∃ a C dx fs v, x = .ref a ∧ H1 a = some (.ins C dx fs) ∧ Cls K C ∧ NoAttr K C f ∧ fs.lookup f = some v ∧ Q v H1
def tFldA (K : PySem.W.Frag) (f : Str) (ta : TE) : TE := fun σ H Q => ta σ H fun x H1 => rFld K f x H1 Q
/-- a class that can be made by name, and what its __init__ promises -/
def Mkx (P : Program) (w : World) (K : PySem.W.Frag) (mg : Str → Option Value) (base : Heap) (k : Nat) (x : Str) (C : Addr) (ps : List Str) (sp : Sp) : Prop :=
  ∃ f fd, L2.Mk K C f ∧ FnOk P w K mg base (L2.CX P w) k f fd ps sp ∧ mg x = some (.ref C) ∧ Binds K fd ps []
def tMakeS (C : Addr) (sp : Sp) (E : L2.St → XK) (t : TA) : TE := fun σ H Q => t σ H fun vs H1 => ∀ x dx, H1 x = none → H1 dx = none → dx ≠ x → sp (.ref x :: vs) (upd (upd H1 dx (.own x)) x (.ins C dx [])) (fun v H2 => v = .non ∧ Q (.ref x) H2) (E σ)
section
variable {X : Cx} {K : PySem.W.Frag} {e : Expr} {es : List Expr} {ta : TE} {t : TA} {pos p : Pos} {f : Str}
theorem pe_fldK (h : X.K = K) (he : PE X e ta) (hb : attributeBase e f X.env (eval e X.env) = eval e X.env := by rfl) : PE X (.Attribute e f pos) (tFldA K f ta) := h ▸ pe_fld he hb
def sFldA (K : PySem.W.Frag) (f : Str) (ta tv : TE) : TS := fun D σ H => tv σ H fun y H1 => ta σ H1 fun x H2 => ∃ a C dx fs, x = .ref a ∧ H2 a = some (.ins C dx fs) ∧ Cls K C ∧ NoAttr K C f ∧ fs.length < 1000 ∧ D.nx σ (upd H2 a (.ins C dx (putF f y fs)))
theorem ps_fldK {o value : Expr} {pos' : Pos} {tv : TE} (h : X.K = K) (ha : PE X o ta) (hv : PE X value tv) (hs : swapsWith value (some (.Attribute o f pos')) pos.line X.env = pure false) : PS X (.Assign [.Attribute o f pos'] value pos) (sFldA K f ta tv) := h ▸ ps_fld ha hv hs
theorem run_makeS {k : Nat} {C g : Addr} {fd : FuncData} {ps : List Str} {sp : Sp} {E : XK} {pins : List (Addr × Obj)} {σ : L2.St} {H : Hp} {s : Shared} {Q : VK} {us : List Value} {vs : List V} (M : L2.Mk X.K C g) (F : FnOk X.prog X.w X.K X.mg X.base (L2.CX X.prog X.w) k g fd ps sp) (hr : Room (k + 1) X.A) (hb : Binds X.K fd ps [])
    (hx : PassesAt (L2.CX X.prog X.w) X σ E) (I : Inv X pins σ H s) (r : Vals vs us) (h : ∀ x dx, H x = none → H dx = none → dx ≠ x → sp (.ref x :: vs) (upd (upd H dx (.own x)) x (.ins C dx [])) (fun v H2 => v = .non ∧ Q (.ref x) H2) E) :
    wpAny (model X.prog X.w) X.A (call (.ref C) us) (EP X pins σ Q) X.xe s := by
  have q := h (s.heap.objs.size + 1) s.heap.objs.size (I.hok.fresh (Nat.le_succ _)) (I.hok.fresh (Nat.le_refl _)) (Nat.ne_of_lt (Nat.lt_succ_self _))
  have J := Inv.made (C := C) I
  have r2 : Vals (V.ref (s.heap.objs.size + 1) :: vs) (Value.ref (s.heap.objs.size + 1) :: us) := .cons rfl r
  have len : (Value.ref (s.heap.objs.size + 1) :: us).length = ps.length := r2.length.symm.trans (F.len _ _ _ _ q)
  have bnd := hb _ (Value.ref (s.heap.objs.size + 1) :: us) J.kIn (by rw [List.append_nil]; exact len)
  rw [List.append_nil] at bnd
  refine wpAny_call (make_map (f := g) I.kIn M.makes M.init (beq_iff_eq.mp M.fn) (codeAny_mono (F.run _ X.stack _ _ ⟨Value.ref (s.heap.objs.size + 1) :: us, []⟩ _ _ _ E (hr.make C us []) (J.env0.make C us []) bnd r2 q) fun z s' y => ?_))
  cases z with
  | error e => exact hx pins _ _ e s' J y
  | ok fl =>
    cases fl with
    | ret u =>
      obtain ⟨v, H', J3, rv, ev, q3⟩ := J.after y
      subst ev
      exact ⟨rv, ⟨V.ref (s.heap.objs.size + 1), H', J3, rfl, q3⟩⟩
    | next | brk | cont => exact False.elim y
theorem pe_mkS {k : Nat} {x : Str} {C : Addr} {ps : List Str} {sp : Sp} {E : L2.St → XK} (M : Mkx X.prog X.w X.K X.mg X.base k x C ps sp) (hr : Room (k + 1) X.A) (hg : Gl X x) (hx : ∀ σ, PassesAt (L2.CX X.prog X.w) X σ (E σ)) (ha : PA X (e :: es) t)
    (hdb : (x == ("__debug__" : Str)) = false := by decide) (he : starEach (e :: es) X.env = (false, eval e X.env) :: starEach es X.env := by rfl) (hpl : (backTo pos (starEach es X.env)).any (·.1) = false := by rfl) : PE X (.Call (.Name x p) (e :: es) [] pos) (tMakeS C sp E t) := by
  obtain ⟨g, fd, M, F, hm, hb⟩ := M
  refine ⟨fun pins s σ H Q I h => ?_⟩
  refine wpAny_Call_Name_kw (ld_glob I hg hm ?_ hdb)
  exact PySem.W.callWith_K (h₀ := X.base) I.ok.mod.kin M.kp (thn (ha.run pos pins s σ H _ I h) fun us s1 ⟨vs, H1, I1, r, q⟩ => ⟨I1.kIn, run_makeS M F hr hb (hx σ) I1 r q⟩) he hpl
theorem pe_mkS0 {k : Nat} {x : Str} {C : Addr} {ps : List Str} {sp : Sp} (M : Mkx X.prog X.w X.K X.mg X.base k x C ps sp) (hr : Room (k + 1) X.A) (hg : Gl X x) (ha : PA X (e :: es) t)
    (hdb : (x == ("__debug__" : Str)) = false := by decide) (he : starEach (e :: es) X.env = (false, eval e X.env) :: starEach es X.env := by rfl) (hpl : (backTo pos (starEach es X.env)).any (·.1) = false := by rfl) : PE X (.Call (.Name x p) (e :: es) [] pos) (tMakeS C sp (fun _ => E0) t) :=
  pe_mkS M hr hg (fun σ pins H s e s' _ c => by
    obtain ⟨_, _, _, _, _, _, _, _, _, _, _, _, z⟩ := c
    exact z.elim) ha hdb he hpl
end
/-! the three fields of a net -/
structure NetD where
  p : List PyData
  c : List PyData
  r : List PyData
/-- the class Net as it stands in the module -/
structure NtC (K : PySem.W.Frag) (mg : Str → Option Value) (C : Addr) : Prop where
  g : mg "Net" = some (.ref C)
  c : Cls K C
  n1 : NoAttr K C "processes"
  n2 : NoAttr K C "channels"
  n3 : NoAttr K C "rules"
def NetAt (K : PySem.W.Frag) (C : Addr) (G : Hp) (a : Addr) (N : NetD) : Prop := ∃ dx v1 v2 v3, G a = some (.ins C dx [("processes", v1), ("channels", v2), ("rules", v3)]) ∧ Rp K G v1 (.tuple N.p) ∧ Rp K G v2 (.tuple N.c) ∧ Rp K G v3 (.tuple N.r)
theorem NetAt.mono {K : PySem.W.Frag} {C : Addr} {G G' : Hp} {a : Addr} {N : NetD} (e : Ex G G') (h : NetAt K C G a N) : NetAt K C G' a N := by
  obtain ⟨dx, v1, v2, v3, h, r1, r2, r3⟩ := h
  exact ⟨dx, v1, v2, v3, e _ _ h, r1.mono e, r2.mono e, r3.mono e⟩
section
variable {K : PySem.W.Frag} {mg : Str → Option Value} {σ : L2.St} {G H : Hp} {Q : VK} {D : Ends} {ta tv : TE} {t : TA} {C a : Addr} {N : NetD} {f : Str} {v : V}
theorem q_fld (h : ta σ H fun x H1 => rFld K f x H1 Q) : tFldA K f ta σ H Q := h
theorem q_fldP (nt : NtC K mg C) (h : NetAt K C G a N) (x : Ex G H) (q : ∀ v, Rp K G v (.tuple N.p) → Q v H) : rFld K "processes" (.ref a) H Q := by
  obtain ⟨dx, v1, v2, v3, h, r1, r2, r3⟩ := h
  exact ⟨a, C, dx, _, v1, rfl, x _ _ h, nt.c, nt.n1, rfl, q v1 r1⟩
theorem q_fldC (nt : NtC K mg C) (h : NetAt K C G a N) (x : Ex G H) (q : ∀ v, Rp K G v (.tuple N.c) → Q v H) : rFld K "channels" (.ref a) H Q := by
  obtain ⟨dx, v1, v2, v3, h, r1, r2, r3⟩ := h
  exact ⟨a, C, dx, _, v2, rfl, x _ _ h, nt.c, nt.n2, rfl, q v2 r2⟩
theorem q_fldR (nt : NtC K mg C) (h : NetAt K C G a N) (x : Ex G H) (q : ∀ v, Rp K G v (.tuple N.r) → Q v H) : rFld K "rules" (.ref a) H Q := by
  obtain ⟨dx, v1, v2, v3, h, r1, r2, r3⟩ := h
  exact ⟨a, C, dx, _, v3, rfl, x _ _ h, nt.c, nt.n3, rfl, q v3 r3⟩
theorem q_sfld (h : tv σ H fun y H1 => ta σ H1 fun x H2 => ∃ a C dx fs, x = .ref a ∧ H2 a = some (.ins C dx fs) ∧ Cls K C ∧ NoAttr K C f ∧ fs.length < 1000 ∧ D.nx σ (upd H2 a (.ins C dx (putF f y fs)))) : sFldA K f ta tv D σ H := h
theorem q_mkS {sp : Sp} {E : L2.St → XK} (h : t σ H fun vs H1 => ∀ x dx, H1 x = none → H1 dx = none → dx ≠ x → sp (.ref x :: vs) (upd (upd H1 dx (.own x)) x (.ins C dx [])) (fun v H2 => v = .non ∧ Q (.ref x) H2) (E σ)) : tMakeS C sp E t σ H Q := h
end
theorem mkx_of {P : Program} {w : World} {K : PySem.W.Frag} {mg : Str → Option Value} {base : Heap} {x q : Str} {st : Stmt} {C f : Addr} {fd : FuncData} {N ps : List Str} {k : Nat} {sp : Sp} (F : FunD K "__init__" q (defArgs st) (defBody st) (defScope st) [] [] f fd) (M : L2.Mk K C f) (hm : mg x = some (.ref C)) (S : FnScope N ps (defScope st))
    (hb : ∀ (dV kV doc pm : Value) (an : Option Addr) (cdv ct : Value) (us : List Value), us.length = ps.length → bindArgs (PySem.W.fnOf "__init__" q (defArgs st) (defBody st) (defScope st) .none kV doc pm an cdv ct) ⟨us, []⟩ = pure (ps.zip us)) (len : ∀ vs H Q E, sp vs H Q E → vs.length = ps.length)
    (body : ∀ (cdv : Value) (A : Around) (outer : List Env) (s : Shared) (H : Hp) (vs : List V) (Q : VK) (E : XK), Room k (A.deeper (envOfC q (defScope st) s.heap.objs.size f cdv)) → sp vs H Q E →
      ∃ t σ, PSs (cxOf (L2.CX P w) P w K mg base N q (defScope st) f cdv A outer s H E) (defBody st) t ∧ start N vs = σ ∧ t { nx := fun _ H' => Q .non H', rt := Q } σ H) : Mkx P w K mg base (k + 1) x C ps sp := by
  refine ⟨f, fd, M, FunD.ok F S len (fun cdv A outer s H vs Q E hr h => ?_), hm, ?_⟩
  · obtain ⟨t, σ, h1, rfl, h2⟩ := body cdv A outer s H vs Q E hr h
    exact ⟨t, h1, h2⟩
  · obtain ⟨oc, od, dV, kV, doc, pm, an, cdv, ct, osl, rfl, lk, hcd, hd, hk⟩ := F.ex
    rcases hd with ⟨_, rfl⟩ | ⟨z, _⟩
    · exact .all fun us hu => hb .none kV doc pm an cdv ct us hu
    · exact absurd rfl z
end Cw

set_option maxHeartbeats 4000000
/-! nets as plain data: what is_name, is_process, .. tell -/
namespace Cw
open PySem PySem.Spec PyProof.Rows L2
def atD (d : PyData) (i : Nat) : PyData := match items d with
  | some ds => ds.getD i .none
  | none => .none
theorem row1 {d : PyData} (h : isRow 1 d = true) : ∃ a, d = .list [a] ∨ d = .tuple [a] := by
  obtain ⟨ds, e, l⟩ := isRow_ex h
  match ds, l with
  | [a], _ => exact ⟨a, e⟩
  | [], l => simp at l
  | _ :: _ :: _, l => simp at l; omega
theorem row2 {d : PyData} (h : isRow 2 d = true) : ∃ a b, d = .list [a, b] ∨ d = .tuple [a, b] := by
  obtain ⟨ds, e, l⟩ := isRow_ex h
  match ds, l with
  | [a, b], _ => exact ⟨a, b, e⟩
  | [], l => simp at l
  | [_], l => simp at l
  | _ :: _ :: _ :: _, l => simp at l; omega
theorem row3 {d : PyData} (h : isRow 3 d = true) : ∃ a b c, d = .list [a, b, c] ∨ d = .tuple [a, b, c] := by
  obtain ⟨ds, e, l⟩ := isRow_ex h
  match ds, l with
  | [a, b, c], _ => exact ⟨a, b, c, e⟩
  | [], l => simp at l
  | [_], l => simp at l
  | [_, _], l => simp at l
  | _ :: _ :: _ :: _ :: _, l => simp at l; omega
theorem row4 {d : PyData} (h : isRow 4 d = true) : ∃ a b c e, d = .list [a, b, c, e] ∨ d = .tuple [a, b, c, e] := by
  obtain ⟨ds, e, l⟩ := isRow_ex h
  match ds, l with
  | [a, b, c, x], _ => exact ⟨a, b, c, x, e⟩
  | [], l => simp at l
  | [_], l => simp at l
  | [_, _], l => simp at l
  | [_, _, _], l => simp at l
  | _ :: _ :: _ :: _ :: _ :: _, l => simp at l; omega
abbrev Seq (d : PyData) (ds : List PyData) : Prop := d = .list ds ∨ d = .tuple ds
theorem Seq.items {d : PyData} {ds : List PyData} (e : Seq d ds) : items d = some ds := by rcases e with rfl | rfl <;> rfl
theorem Seq.at {d : PyData} {ds : List PyData} (e : Seq d ds) (i : Nat) : atD d i = ds.getD i .none := by
  unfold atD
  rw [e.items]
theorem Seq.isRow {d : PyData} {ds : List PyData} (e : Seq d ds) (n : Int) : isRow n d = decide ((ds.length : Int) = n) := by
  unfold Cw.isRow
  rw [e.items]
def lettersS : Str := "abcdefghijklmnopqrstuvwxyz"
def isLetter (c : Nat) : Bool := decide (c ∈ lettersS.cps.toList)
def isName : PyData → Bool
  | .str z => decide (1 ≤ z.length) && decide (z.length ≤ 6) && z.cps.toList.all isLetter
  | _ => false
def posD : PyData → Bool
  | .int i => decide (0 < i)
  | _ => false
def isProcess (d : PyData) : Bool := isRow 2 d && (isName (atD d 0) && (isBelow 9 (atD d 1) && posD (atD d 1)))
def strOf : PyData → Str
  | .str z => z
  | _ => Str.empty
def unlike (ds : List PyData) : Bool := decide ((ds.map fun d => strOf (atD d 0)).Nodup)
def areProcs (d : PyData) : Bool := match items d with
  | some ds => decide (1 ≤ ds.length) && decide (ds.length ≤ 5) && (ds.all isProcess && unlike ds)
  | none => false
def kindsD : List PyData := [.str "order", .str "loose", .str "order lossy", .str "loose lossy"]
def isChan (n : Nat) (d : PyData) : Bool := isRow 4 d && (isName (atD d 0) && (isBelow n (atD d 1) && (isBelow n (atD d 2) && (!PyData.eqv (atD d 1) (atD d 2) && kindsD.any fun k => PyData.eqv k (atD d 3)))))
def areChans (n : Nat) (d : PyData) : Bool := match items d with
  | some ds => decide (ds.length ≤ 8) && (ds.all (isChan n) && unlike ds)
  | none => false
def natD : PyData → Nat
  | .int i => i.toNat
  | _ => 0
/-- an act of the process p, the channels being cs -/
def isAct (cs : List PyData) (p : PyData) (d : PyData) : Bool :=
  if isRow 1 d then PyData.eqv (atD d 0) (.str "do")
  else if !isRow 3 d || !isBelow cs.length (atD d 1) || !isBelow 10 (atD d 2) then false
  else PyData.eqv (atD d 0) (.str "send") && PyData.eqv p (atD (cs.getD (natD (atD d 1)) .none) 1) || PyData.eqv (atD d 0) (.str "take") && PyData.eqv p (atD (cs.getD (natD (atD d 1)) .none) 2)
def isRule (ps cs : List PyData) (d : PyData) : Bool :=
  if !isRow 4 d || !isBelow ps.length (atD d 0) then false
  else match atD (ps.getD (natD (atD d 0)) .none) 1 with
    | .int s => isBelow s (atD d 1) && (isAct cs (atD d 0) (atD d 2) && isBelow s (atD d 3))
    | _ => false
def areRules (ps cs : List PyData) (d : PyData) : Bool := match items d with
  | some ds => decide (ds.length ≤ 40) && ds.all (isRule ps cs)
  | none => false
theorem below_int {n : Int} {d : PyData} (h : isBelow n d = true) : ∃ i : Int, d = .int i ∧ 0 ≤ i ∧ i < n := by
  cases d with
  | int i => exact ⟨i, rfl, of_decide_eq_true (bA h).1, of_decide_eq_true (bA h).2⟩
  | _ => cases h
theorem below_of {n i : Int} (h0 : 0 ≤ i) (h1 : i < n) : isBelow n (.int i) = true := by
  show (decide (0 ≤ i) && decide (i < n)) = true
  rw [decide_eq_true h0, decide_eq_true h1] <;> rfl
theorem name_str {d : PyData} (h : isName d = true) : ∃ z, d = .str z := by
  cases d with
  | str z => exact ⟨z, rfl⟩
  | _ => cases h
theorem isProcess_eq {d a b : PyData} (hs : Seq d [a, b]) : isProcess d = (isName a && (isBelow 9 b && posD b)) := by
  rcases hs with rfl | rfl <;> rfl
theorem isChan_eq {n : Nat} {d a b c e : PyData} (hs : Seq d [a, b, c, e]) : isChan n d = (isName a && (isBelow n b && (isBelow n c && (!PyData.eqv b c && kindsD.any fun k => PyData.eqv k e)))) := by
  rcases hs with rfl | rfl <;> rfl
theorem seq_of {d : PyData} (h : dSeq d = true) : ∃ ds, Seq d ds := by
  cases d with
  | list ds => exact ⟨ds, .inl rfl⟩
  | tuple ds => exact ⟨ds, .inr rfl⟩
  | _ => cases h
theorem seq_no {d : PyData} (h : dSeq d = false) : items d = none := by
  cases d with
  | list ds => cases h
  | tuple ds => cases h
  | _ => rfl
theorem isRow_no {n : Int} {d : PyData} (h : isRow n d = false) {ds : List PyData} (hs : Seq d ds) : (ds.length : Int) ≠ n := by
  rw [hs.isRow] at h
  exact of_decide_eq_false h
end Cw

set_option maxHeartbeats 4000000
/-! comprehensions over data, a value for each item -/
namespace Cw
open PySem PySem.Spec PyProof.Rows L2
section
variable {K : PySem.W.Frag} {σ : L2.St} {G H : Hp} {Q : VK} {ta : TE} {g : TG} {tt : TT} {te : TE} {ws : List Nat} {v : V} {d : PyData} {ds : List PyData}
/-- what one turn asks: C takes each value that keeps R -/
abbrev LcBody (g : TG) (tt : TT) (te : TE) (ws : List Nat) (σ : L2.St) (R : V → Hp → Prop) (u : V) (G' H' : Hp) : Prop :=
  ∀ (C : V → Hp → Prop) (N : Hp → Prop), (∀ y G2 H2, Gro none G' H' G2 H2 → R y G2 → C y H2) → g u (wipe σ ws) H' fun σ2 H2 => wipe σ2 ws = wipe σ ws ∧ tt σ2 H2 fun b H3 => if b = true then te σ2 H3 C else N H3
/-- what is left behind the last turn -/
abbrev LcDone (n : Nat) (R : Nat → V → Hp → Prop) (G H : Hp) (Q : VK) : Prop :=
  ∀ D ys G' H', Gro none G H G' H' → H' D = some (.lst ys) → G' D = none → H D = none → ys.length = n → (∀ i, i < n → ∃ y, ys[i]? = some y ∧ R i y G') → Q (.ref D) H'
/-- between two turns -/
def LcIn (R : Nat → V → Hp → Prop) (G H : Hp) (D : Addr) (i : Nat) (H' : Hp) : Prop :=
  ∃ G' acc, Gro none G H G' H' ∧ G' D = none ∧ H' D = some (.lst acc) ∧ acc.length = i ∧ ∀ j, j < i → ∃ y, acc[j]? = some y ∧ R j y G'
theorem LcIn.first {R : Nat → V → Hp → Prop} (x : Ex G H) {D : Addr} (hD : H D = none) : LcIn R G H D 0 (L2.upd H D (.lst [])) :=
  ⟨G, [], ⟨Ex.refl G, x.trans (Ex.new hD), fun a o _ h => Ex.new hD a o h, fun _ _ h => h⟩, x.back hD, upd_same, rfl, fun j h => by omega⟩
theorem LcIn.next {R : Nat → V → Hp → Prop} (mono : ∀ i y G1 G2, Ex G1 G2 → R i y G1 → R i y G2) {D : Addr} {i : Nat} {G' H' G2 H4 : Hp} {acc : List V} {y : V} (hD : H D = none) (gr : Gro none G H G' H') (gD : G' D = none) (hacc : H' D = some (.lst acc)) (hl : acc.length = i)
    (old : ∀ j, j < i → ∃ y, acc[j]? = some y ∧ R j y G') (g2 : Gro none G' H' G2 H4) (r : R i y G2) : LcIn R G H D (i + 1) (L2.upd H4 D (.lst (acc ++ [y]))) := by
  have gD2 : G2 D = none := g2.n D (by rw [hacc]; exact fun z => nomatch z) gD
  have t := gr.trans0 g2
  refine ⟨G2, acc ++ [y], ⟨t.g, Ex.mut t.w gD2, fun a o z h => ?_, t.n⟩, gD2, upd_same, by simp [hl], fun j hj => ?_⟩
  · rw [upd_ne (ne_of_none h hD)]
    exact t.k a o z h
  · by_cases e : j = i
    · subst e
      exact ⟨y, by simp [← hl], r⟩
    · obtain ⟨z, h1, h2⟩ := old j (by omega)
      refine ⟨z, ?_, mono _ _ _ _ g2.g h2⟩
      rw [List.getElem?_append_left (by omega)]
      exact h1
theorem LcIn.turn {R : Nat → V → Hp → Prop} (mono : ∀ i y G1 G2, Ex G1 G2 → R i y G1 → R i y G2) {D : Addr} {i n : Nat} {u : V} {H' : Hp} (hD : H D = none) (hi : i < n) (hn : n ≤ 1000000) (hI : LcIn R G H D i H')
    (body : ∀ G', Gro none G H G' H' → LcBody g tt te ws σ (R i) u G' H') : g u (wipe σ ws) H' fun σ2 H2 => wipe σ2 ws = wipe σ ws ∧ tt σ2 H2 fun b H3 => if b = true then te σ2 H3 fun y H4 => ∃ acc, H4 D = some (.lst acc) ∧ acc.length < sizeLine ∧ LcIn R G H D (i + 1) (L2.upd H4 D (.lst (acc ++ [y]))) else LcIn R G H D (i + 1) H3 := by
  obtain ⟨G', acc, gr, gD, hacc, hl, old⟩ := hI
  exact body G' gr _ _ fun y G2 H4 g2 r => ⟨acc, g2.ex _ _ hacc, line_lt (by omega), LcIn.next mono hD gr gD hacc hl old g2 r⟩
theorem q_lcDL {R : Nat → V → Hp → Prop} (hv : Rp K G v (.list ds)) (x : Ex G H) (hn : ds.length ≤ 1000000) (mono : ∀ i y G1 G2, Ex G1 G2 → R i y G1 → R i y G2)
    (body : ∀ i (hi : i < ds.length) u G' H', Gro none G H G' H' → Rp K G' u ds[i] → LcBody g tt te ws σ (R i) u G' H') (done : LcDone ds.length R G H Q) : kcLst K g tt te ws σ Q v H := by
  obtain ⟨a, vs, rfl, hS, hr⟩ := rp_lst hv
  refine q_lst_lc (.inl (.inl (x _ _ hS))) (fun D hD => ⟨LcIn R G H D, LcIn.first x hD, ?_, ?_, ?_⟩)
  · rintro i H' hi ⟨G', acc, gr, _⟩
    exact .inl (.inl (gr.w _ _ (gr.g _ _ hS)))
  · intro i u H' hu hI
    have hi : i < ds.length := by
      rw [← hr.len]
      exact (List.getElem?_eq_some_iff.mp hu).1
    obtain ⟨d', hd', ru⟩ := hr.at hu
    rw [List.getElem?_eq_getElem hi] at hd'
    cases hd'
    exact LcIn.turn mono hD hi hn hI fun G' gr => body i hi u G' H' gr (ru.mono gr.g)
  · rintro H' ⟨G', acc, gr, gD, hacc, hl, old⟩
    rw [hr.len] at hl old
    exact done D acc G' H' gr hacc gD hD hl old
theorem q_lcDT {R : Nat → V → Hp → Prop} (hv : Rp K G v (.tuple ds)) (x : Ex G H) (hn : ds.length ≤ 1000000) (mono : ∀ i y G1 G2, Ex G1 G2 → R i y G1 → R i y G2)
    (body : ∀ i (hi : i < ds.length) u G' H', Gro none G H G' H' → Rp K G' u ds[i] → LcBody g tt te ws σ (R i) u G' H') (done : LcDone ds.length R G H Q) : kcTup K g tt te ws σ Q v H := by
  obtain ⟨a, vs, rfl, hS, hr⟩ := rp_tup hv
  have hT := x.st hS
  refine ⟨a, rfl, ⟨vs, hT⟩, fun D hD => ?_⟩
  refine lc_it (walk_tup (K := K) (a := a) (xs := vs)) (LcIn R G H D) (LcIn.first x hD) ?_ ?_ ?_
  · rintro i H' hi ⟨G', acc, gr, _⟩
    exact gr.w.st (gr.g.st hS)
  · rintro i u H1 H' hi hI ⟨rfl, hu⟩
    have hi' : i < ds.length := by
      rw [← hr.len]
      exact hi
    obtain ⟨d', hd', ru⟩ := hr.at hu
    rw [List.getElem?_eq_getElem hi'] at hd'
    cases hd'
    exact LcIn.turn mono hD hi' hn hI fun G' gr => body i hi' u G' _ gr (ru.mono gr.g)
  · rintro H' ⟨G', acc, gr, gD, hacc, hl, old⟩
    rw [hr.len] at hl old
    exact done D acc G' H' gr hacc gD hD hl old
/-- .. over what a variable holds, a list or a tuple -/
theorem q_lcV {R : Nat → V → Hp → Prop} {k : Nat} (hk : σ[k]? = some (some v)) (hv : Rp K G v d) (hs : Seq d ds) (x : Ex G H) (hn : ds.length ≤ 1000000) (mono : ∀ i y G1 G2, Ex G1 G2 → R i y G1 → R i y G2)
    (body : ∀ i (hi : i < ds.length) u G' H', Gro none G H G' H' → Rp K G' u ds[i] → LcBody g tt te ws σ (R i) u G' H') (done : LcDone ds.length R G H Q) : tLc (iSeqA K (tVar k)) g tt te ws σ H Q := by
  rcases hs with rfl | rfl
  · exact q_lcL ⟨v, hk, q_lcDL hv x hn mono body done⟩
  · exact q_lcT ⟨v, hk, q_lcDT hv x hn mono body done⟩
/-- .. over the signs of a text -/
theorem q_lcS {R : Nat → V → Hp → Prop} {k : Nat} {z : Str} (hk : σ[k]? = some (some (.str z))) (x : Ex G H) (hn : z.length ≤ 1000000) (mono : ∀ i y G1 G2, Ex G1 G2 → R i y G1 → R i y G2)
    (body : ∀ i c G' H', z.cps[i]? = some c → Gro none G H G' H' → LcBody g tt te ws σ (R i) (.str ⟨#[c]⟩) G' H') (done : LcDone z.length R G H Q) : tLc (iSeqA K (tVar k)) g tt te ws σ H Q := by
  refine .inr (.inr ⟨.str z, hk, z, rfl, fun D hD => ?_⟩)
  refine lc_it (walk_str (z := z)) (LcIn R G H D) (LcIn.first x hD) (fun _ _ _ _ => True.intro) ?_ ?_
  · rintro i u H1 H' hi hI ⟨rfl, c, hc, rfl⟩
    exact LcIn.turn mono hD hi hn hI fun G' gr => body i c G' _ hc gr
  · rintro H' ⟨G', acc, gr, gD, hacc, hl, old⟩
    exact done D acc G' H' gr hacc gD hD hl old
/-! a list of truths -/
def optB {α : Type} (p : α → Bool) : Option α → Bool
  | some a => p a
  | none => false
def optS {α : Type} (f : α → Str) : Option α → Str
  | some a => f a
  | none => Str.empty

theorem bls_of {n : Nat} {ys : List V} {G' : Hp} {p : Nat → Bool} (hl : ys.length = n) (h : ∀ i, i < n → ∃ y, ys[i]? = some y ∧ (fun i y (_ : Hp) => y = V.bl (p i)) i y G') : ys = ((List.range n).map p).map V.bl := by
  apply List.ext_getElem?
  intro i
  by_cases hi : i < n
  · obtain ⟨y, h1, rfl⟩ := h i hi
    rw [h1]
    simp [hi]
  · rw [List.getElem?_eq_none (by omega), List.getElem?_eq_none (by simp; omega)]
theorem strs_of {α : Type} {ds : List α} {f : α → Str} {ys : List V} {G' : Hp} (hl : ys.length = ds.length) (h : ∀ i, i < ds.length → ∃ y, ys[i]? = some y ∧ (fun i y (_ : Hp) => y = V.str (optS f ds[i]?)) i y G') : ys = (ds.map f).map V.str := by
  apply List.ext_getElem?
  intro i
  by_cases hi : i < ds.length
  · obtain ⟨y, h1, h2⟩ := h i hi
    have e : y = V.str (optS f ds[i]?) := h2
    rw [List.getElem?_eq_getElem hi] at e
    rw [h1, e]
    simp [hi, optS]
  · rw [List.getElem?_eq_none (by omega), List.getElem?_eq_none (by simp; omega)]
theorem q_all {H : Hp} {bs : List Bool} {a : Addr} (h : H a = some (.lst (bs.map V.bl))) (q : Q (.bl (bs.all id)) H) : rAll K [.ref a] H Q := ⟨a, bs, rfl, .inl (.inl h), q⟩
theorem range_all {α : Type} (p : α → Bool) : ∀ ds : List α, (((List.range ds.length).map fun i => optB p ds[i]?).all id) = ds.all p := by
  intro ds
  rw [Bool.eq_iff_iff, List.all_eq_true, List.all_eq_true]
  constructor
  · intro h d hd
    obtain ⟨i, hi, e⟩ := List.getElem_of_mem hd
    have := h (p d) (List.mem_map.mpr ⟨i, List.mem_range.mpr hi, by rw [List.getElem?_eq_getElem hi, e] <;> rfl⟩)
    exact this
  · intro h b hb
    obtain ⟨i, hi, e⟩ := List.mem_map.mp hb
    have hi' := List.mem_range.mp hi
    rw [List.getElem?_eq_getElem hi'] at e
    rw [← e]
    exact h _ (List.getElem_mem hi')
end
end Cw

set_option maxHeartbeats 4000000
/-! unpacking and slices of rows -/
namespace Cw
open PySem PySem.Spec PyProof.Rows L2
section
variable {X : Cx} {K : PySem.W.Frag} {e : Expr} {t1 t2 : TG}
theorem pg_or (h1 : PG X e t1) (h2 : PG X e t2) : PG X e (fun v σ H Q => t1 v σ H Q ∨ t2 v σ H Q) := ⟨fun pins s σ H v u Q I r h => by
  rcases h with h | h
  · exact h1.run pins s σ H v u Q I r h
  · exact h2.run pins s σ H v u Q I r h⟩
def gSeqA (K : PySem.W.Frag) (n : Nat) (t : TGs) : TG := fun v σ H Q => gTup K n t v σ H Q ∨ gLst K n t v σ H Q
theorem pg_seqK {es : List Expr} {k : Nat} {t : TGs} {n : Nat} {pos : Pos} (h : X.K = K) (hc : X.calm = true) (hp : PGs X es t) (hn : (assignEach es X.env).length = n := by rfl) (hst : (assignEach es X.env).findIdx? (·.1) = none := by rfl) : PG X (.Tuple es k pos) (gSeqA K n t) :=
  h ▸ pg_or (pg_tup hc hp hn hst) (pg_lst hc hp hn hst)
end
section
variable {K : PySem.W.Frag} {σ : L2.St} {G H : Hp} {Q : VK} {v : V} {d : PyData} {ds : List PyData} {n : Nat} {t : TGs} {R : L2.St → Hp → Prop}
theorem q_intI {i : Int} {R : Int → Prop} (h : R i) : ∃ k, V.int i = .int k ∧ R k := ⟨i, rfl, h⟩
theorem rps_nil {vs : List V} (h : Rps K G vs []) : vs = [] := by
  cases h
  rfl
theorem rps_cons {vs : List V} (h : Rps K G vs (d :: ds)) : ∃ u us, vs = u :: us ∧ Rp K G u d ∧ Rps K G us ds := by
  cases h with
  | cons r1 r2 => exact ⟨_, _, rfl, r1, r2⟩
theorem rps4 {a b c e : PyData} {vs : List V} (h : Rps K G vs [a, b, c, e]) : ∃ v1 v2 v3 v4, vs = [v1, v2, v3, v4] ∧ Rp K G v1 a ∧ Rp K G v2 b ∧ Rp K G v3 c ∧ Rp K G v4 e := by
  obtain ⟨v1, _, rfl, r1, h⟩ := rps_cons h
  obtain ⟨v2, _, rfl, r2, h⟩ := rps_cons h
  obtain ⟨v3, _, rfl, r3, h⟩ := rps_cons h
  obtain ⟨v4, _, rfl, r4, h⟩ := rps_cons h
  obtain rfl := rps_nil h
  exact ⟨_, _, _, _, rfl, r1, r2, r3, r4⟩
theorem q_gSeq (hv : Rp K G v d) (hs : Seq d ds) (x : Ex G H) (hn : ds.length = n) (q : ∀ us, Rps K G us ds → t us σ H R) : gSeqA K n t v σ H R := by
  rcases hs with rfl | rfl
  · obtain ⟨a, vs, rfl, hS, hr⟩ := rp_lst hv
    exact .inr ⟨a, vs, rfl, .inl (.inl (x _ _ hS)), hr.len.trans hn, q vs hr⟩
  · obtain ⟨a, vs, rfl, hS, hr⟩ := rp_tup hv
    exact .inl ⟨a, vs, rfl, x.st hS, hr.len.trans hn, q vs hr⟩
theorem q_gcons {g : TG} {vs : List V} (h : g v σ H fun σ' H' => t vs σ' H' R) : gCons g t (v :: vs) σ H R := ⟨v, vs, rfl, h⟩
theorem q_gnil (h : R σ H) : gNil [] σ H R := ⟨rfl, h⟩
/-- row[1:3] of four -/
theorem q_sl13 {a b c e : PyData} (hv : Rp K G v d) (hs : Seq d [a, b, c, e]) (x : Ex G H) (q : ∀ G2 H2 p d2, Gro none G H G2 H2 → Rp K G2 (.ref p) d2 → Seq d2 [b, c] → Q (.ref p) H2) : rSlAny K v (some 1) (some 3) H Q := by
  rcases hs with rfl | rfl
  · obtain ⟨l, vs, rfl, hS, hr⟩ := rp_lst hv
    obtain ⟨v1, v2, v3, v4, rfl, r1, r2, r3, r4⟩ := rps4 hr
    refine .inl ⟨l, _, rfl, .inl (.inl (x _ _ hS)), fun p hp => ?_⟩
    exact q (L2.upd G p (.lst _)) _ p (.list [b, c]) (Gro.new x hp) (.lst upd_same (.cons (r2.mono (Ex.new (x.back hp))) (.cons (r3.mono (Ex.new (x.back hp))) .nil))) (.inl rfl)
  · obtain ⟨l, vs, rfl, hS, hr⟩ := rp_tup hv
    obtain ⟨v1, v2, v3, v4, rfl, r1, r2, r3, r4⟩ := rps4 hr
    refine .inr (.inl ⟨l, _, rfl, x.st hS, fun z => absurd z (by show ¬ ((1 : Nat) = 0 ∧ (3 : Nat) = 4); decide), fun _ p hp => ?_⟩)
    exact q (L2.upd G p (.tup _)) _ p (.tuple [b, c]) (Gro.new x hp) (.tup (.inl (.inl upd_same)) (.cons (r2.mono (Ex.new (x.back hp))) (.cons (r3.mono (Ex.new (x.back hp))) .nil))) (.inr rfl)
/-- tuple(row) -/
theorem q_tupRS (hv : Rp K G v d) (hs : Seq d ds) (x : Ex G H) (q : ∀ G2 H2 p, Gro none G H G2 H2 → Rp K G2 (.ref p) (.tuple ds) → Q (.ref p) H2) : rTupA K [v] H Q := by
  rcases hs with rfl | rfl
  · obtain ⟨l, vs, rfl, hS, hr⟩ := rp_lst hv
    exact ⟨l, vs, rfl, .inl ⟨.inl (.inl (x _ _ hS)), fun p hp => q (L2.upd G p (.tup vs)) _ p (Gro.new x hp) (.tup (.inl (.inl upd_same)) (hr.mono (Ex.new (x.back hp))))⟩⟩
  · obtain ⟨l, vs, rfl, hS, hr⟩ := rp_tup hv
    exact ⟨l, vs, rfl, .inr ⟨x.st hS, q G H l (Gro.refl x) (.tup hS hr)⟩⟩
/-- list(row) -/
theorem q_lstRS (hv : Rp K G v d) (hs : Seq d ds) (x : Ex G H) (q : ∀ vs p, Rps K G vs ds → H p = none → Q (.ref p) (L2.upd H p (.lst vs))) : rListA K [v] H Q := by
  rcases hs with rfl | rfl
  · obtain ⟨l, vs, rfl, hS, hr⟩ := rp_lst hv
    exact ⟨l, vs, rfl, .inl (.inl (.inl (x _ _ hS))), fun p hp => q vs p hr hp⟩
  · obtain ⟨l, vs, rfl, hS, hr⟩ := rp_tup hv
    exact ⟨l, vs, rfl, .inr (x.st hS), fun p hp => q vs p hr hp⟩
end
end Cw

set_option maxHeartbeats 4000000
/-! what the top leaves of classes of errors, beside the facts by names -/
namespace Cw
open PySem PySem.Spec PyProof.Rows L2
inductive Xf where
  | xc (x fld : Str)
  | exm (x y : Str) (b : Bool)
  | kit (x y : Str) (b : Bool)
  | kitT (x : Str) (T : String) (b : Bool)
  | tup (x : Str) (zs : List Str)
def Xf.ok (K : PySem.W.Frag) : Xf → Bool
  | .xc x f => xcB K (He.ga K x) (He.ma K (He.ga K x) "__init__") f
  | .exm x y b => decide (PySem.W.exmOne K (.ref (He.ga K x)) (.ref (He.ga K y)) = some b)
  | .kit x y b => decide (PySem.W.kitOne K (.ref (He.ga K x)) (.ref (He.ga K y)) = some b)
  | .kitT x T b => decide (PySem.W.kitOne K (.ref (He.ga K x)) (.type T) = some b)
  | .tup x zs => He.tupB K x (zs.map He.Dv.str)
abbrev AlX : Type := He.AlD × Bool
def obsX (fa : List He.Fa) (fn : List He.DefD) (xs : List Xf) (K : PySem.W.Frag) : AlX := (He.obsD fa fn K, xs.all fun x => x.ok K)
def obsXG (n : Nat) (fa : List He.Fa) (fn : List He.DefD) (xs : List Xf) (g : Addr → Option Obj) : AlX := obsX fa fn xs (He.frG g (He.asD g n))
def SaysX (fa : List He.Fa) (fn : List He.DefD) (xs : List Xf) (K : PySem.W.Frag) : Prop := obsX fa fn xs K = (He.valD fn, true)
def hookX (n : Nat) (fa : List He.Fa) (fn : List He.DefD) (xs : List Xf) : PySem.W.Hook where
  α := AlX
  obs := fun s => obsXG n fa fn xs s.heap.get?
  val := fun _ => (He.valD fn, true)
  says := fun _ h => ∃ K : PySem.W.Frag, K.In h ∧ SaysX fa fn xs K
  of := fun _ _ e => ⟨_, He.frG_in, e⟩
  keeps := fun _ _ _ ⟨K, hK, c⟩ k => ⟨K, PySem.W.Frag.In.keeps hK k, c⟩
theorem obsXG_eq {n : Nat} {fa : List He.Fa} {fn : List He.DefD} {xs : List Xf} {g : Addr → Option Obj} {s : Shared} (h : ∀ a, g a = s.heap.get? a) : obsXG n fa fn xs g = (hookX n fa fn xs).obs s := by
  have e : g = s.heap.get? := funext h
  rw [e] <;> rfl
section
variable {fa : List He.Fa} {fn : List He.DefD} {xs : List Xf} {K : PySem.W.Frag}
theorem SaysX.d (c : SaysX fa fn xs K) : He.SaysD fa fn K := congrArg (fun z : AlX => z.1) c
theorem SaysX.x (c : SaysX fa fn xs K) {x : Xf} (h : x ∈ xs) : x.ok K = true := List.all_eq_true.mp (congrArg (fun z : AlX => z.2) c) x h
theorem SaysX.f (c : SaysX fa fn xs K) {x : He.Fa} (h : x ∈ fa) : x.ok K = true := by
  obtain ⟨i, h1, h2⟩ := List.getElem_of_mem h
  exact c.d.fact i (by rw [List.getElem?_eq_getElem h1, h2])
end
/-- the first statement of a class's body -/
def clsInit (st : Stmt) (i : Nat) : Stmt := match st with
  | .ClassDef _ _ _ body _ _ _ _ _ _ _ => body.getD i (.Pass ⟨0, 0, 0, 0⟩)
  | _ => .Pass ⟨0, 0, 0, 0⟩
/-- the built-in names that are asked free -/
def bltNames : List Str := ["len", "range", "int", "str", "bool", "list", "tuple", "set", "dict", "isinstance", "all", "any", "enumerate", "zip", "min", "max", "sum", "sorted", "reversed", "Exception", "ValueError"]
theorem blt_of {mg : Str → Option Value} (h : ∀ x ∈ bltNames, mg x = none) : Blt mg := by
  constructor
  all_goals
    apply h
    decide
end Cw

set_option maxHeartbeats 0
namespace Cw
open PySem PySem.Spec PyProof.Rows L2
def topS (i : Nat) : Stmt := PySem.Challenge.pw_cutweave_k08_histories_and_spoilt_ones.main.body.getD i (.Pass ⟨0, 0, 0, 0⟩)
theorem initS_BadValue : InitS (clsInit (topS 2) 0) "BadValue.__init__" "at" := ⟨⟨_, _, _, _, rfl⟩, rfl, rfl, rfl, fun _ _ _ => rfl, fun _ _ _ => rfl, fun _ _ => rfl, fun _ _ _ _ _ => ⟨rfl, rfl⟩, fun _ _ _ _ _ _ _ _ => rfl, by decide⟩
def di_BadValue : He.DefD := ⟨("BadValue", some "__init__"), "__init__", "BadValue.__init__", defArgs (clsInit (topS 2) 0), defBody (clsInit (topS 2) 0), defScope (clsInit (topS 2) 0), [], []⟩
theorem initS_BadStep : InitS (clsInit (topS 3) 0) "BadStep.__init__" "at" := ⟨⟨_, _, _, _, rfl⟩, rfl, rfl, rfl, fun _ _ _ => rfl, fun _ _ _ => rfl, fun _ _ => rfl, fun _ _ _ _ _ => ⟨rfl, rfl⟩, fun _ _ _ _ _ _ _ _ => rfl, by decide⟩
def di_BadStep : He.DefD := ⟨("BadStep", some "__init__"), "__init__", "BadStep.__init__", defArgs (clsInit (topS 3) 0), defBody (clsInit (topS 3) 0), defScope (clsInit (topS 3) 0), [], []⟩
def dm_Net___init__ : He.DefD := ⟨("Net", some "__init__"), "__init__", "Net.__init__", defArgs (clsInit (topS 20) 0), defBody (clsInit (topS 20) 0), defScope (clsInit (topS 20) 0), [], []⟩
def dm_Net___eq__ : He.DefD := ⟨("Net", some "__eq__"), "__eq__", "Net.__eq__", defArgs (clsInit (topS 20) 1), defBody (clsInit (topS 20) 1), defScope (clsInit (topS 20) 1), [], []⟩
def d_is_number : He.DefD := ⟨("is_number", none), "is_number", "is_number", defArgs (topS 5), defBody (topS 5), defScope (topS 5), [], []⟩
def d_is_below : He.DefD := ⟨("is_below", none), "is_below", "is_below", defArgs (topS 6), defBody (topS 6), defScope (topS 6), [], []⟩
def d_is_sequence : He.DefD := ⟨("is_sequence", none), "is_sequence", "is_sequence", defArgs (topS 7), defBody (topS 7), defScope (topS 7), [], []⟩
def d_is_row : He.DefD := ⟨("is_row", none), "is_row", "is_row", defArgs (topS 8), defBody (topS 8), defScope (topS 8), [], []⟩
def d_is_name : He.DefD := ⟨("is_name", none), "is_name", "is_name", defArgs (topS 21), defBody (topS 21), defScope (topS 21), [], []⟩
def d_are_unlike : He.DefD := ⟨("are_unlike", none), "are_unlike", "are_unlike", defArgs (topS 22), defBody (topS 22), defScope (topS 22), [], []⟩
def d_is_process : He.DefD := ⟨("is_process", none), "is_process", "is_process", defArgs (topS 23), defBody (topS 23), defScope (topS 23), [], []⟩
def d_are_processes : He.DefD := ⟨("are_processes", none), "are_processes", "are_processes", defArgs (topS 24), defBody (topS 24), defScope (topS 24), [], []⟩
def d_is_channel : He.DefD := ⟨("is_channel", none), "is_channel", "is_channel", defArgs (topS 25), defBody (topS 25), defScope (topS 25), [], []⟩
def d_are_channels : He.DefD := ⟨("are_channels", none), "are_channels", "are_channels", defArgs (topS 26), defBody (topS 26), defScope (topS 26), [], []⟩
def d_is_act : He.DefD := ⟨("is_act", none), "is_act", "is_act", defArgs (topS 27), defBody (topS 27), defScope (topS 27), [], []⟩
def d_is_rule : He.DefD := ⟨("is_rule", none), "is_rule", "is_rule", defArgs (topS 28), defBody (topS 28), defScope (topS 28), [], []⟩
def d_are_rules : He.DefD := ⟨("are_rules", none), "are_rules", "are_rules", defArgs (topS 29), defBody (topS 29), defScope (topS 29), [], []⟩
def d_start : He.DefD := ⟨("start", none), "start", "start", defArgs (topS 31), defBody (topS 31), defScope (topS 31), [], []⟩
def d_owner : He.DefD := ⟨("owner", none), "owner", "owner", defArgs (topS 32), defBody (topS 32), defScope (topS 32), [], []⟩
def d_is_deed : He.DefD := ⟨("is_deed", none), "is_deed", "is_deed", defArgs (topS 33), defBody (topS 33), defScope (topS 33), [], []⟩
def d_act_word : He.DefD := ⟨("act_word", none), "act_word", "act_word", defArgs (topS 34), defBody (topS 34), defScope (topS 34), [], []⟩
def d_rule_deeds : He.DefD := ⟨("rule_deeds", none), "rule_deeds", "rule_deeds", defArgs (topS 35), defBody (topS 35), defScope (topS 35), [], []⟩
def d_losses : He.DefD := ⟨("losses", none), "losses", "losses", defArgs (topS 36), defBody (topS 36), defScope (topS 36), [], []⟩
def d_at_hand : He.DefD := ⟨("at_hand", none), "at_hand", "at_hand", defArgs (topS 37), defBody (topS 37), defScope (topS 37), [], []⟩
def d_done : He.DefD := ⟨("done", none), "done", "done", defArgs (topS 38), defBody (topS 38), defScope (topS 38), [], []⟩
def d_can_be_done : He.DefD := ⟨("can_be_done", none), "can_be_done", "can_be_done", defArgs (topS 39), defBody (topS 39), defScope (topS 39), [], []⟩
def d_present_rows : He.DefD := ⟨("present_rows", none), "present_rows", "present_rows", defArgs (topS 40), defBody (topS 40), defScope (topS 40), [], []⟩
def d_without : He.DefD := ⟨("without", none), "without", "without", defArgs (topS 41), defBody (topS 41), defScope (topS 41), [], []⟩
def d_changed : He.DefD := ⟨("changed", none), "changed", "changed", defArgs (topS 42), defBody (topS 42), defScope (topS 42), [], []⟩
def d_played : He.DefD := ⟨("played", none), "played", "played", defArgs (topS 45), defBody (topS 45), defScope (topS 45), [], []⟩
def d_worlds_on : He.DefD := ⟨("worlds_on", none), "worlds_on", "worlds_on", defArgs (topS 46), defBody (topS 46), defScope (topS 46), [], []⟩
def d_history : He.DefD := ⟨("history", none), "history", "history", defArgs (topS 48), defBody (topS 48), defScope (topS 48), [], []⟩
def d_rows_of : He.DefD := ⟨("rows_of", none), "rows_of", "rows_of", defArgs (topS 49), defBody (topS 49), defScope (topS 49), [], []⟩
def d_is_history : He.DefD := ⟨("is_history", none), "is_history", "is_history", defArgs (topS 50), defBody (topS 50), defScope (topS 50), [], []⟩
def d_run_of : He.DefD := ⟨("run_of", none), "run_of", "run_of", defArgs (topS 51), defBody (topS 51), defScope (topS 51), [], []⟩
def d_are_rows : He.DefD := ⟨("are_rows", none), "are_rows", "are_rows", defArgs (topS 52), defBody (topS 52), defScope (topS 52), [], []⟩
def d_many_events : He.DefD := ⟨("many_events", none), "many_events", "many_events", defArgs (topS 53), defBody (topS 53), defScope (topS 53), [], []⟩
def d_least_way : He.DefD := ⟨("least_way", none), "least_way", "least_way", defArgs (topS 54), defBody (topS 54), defScope (topS 54), [], []⟩
def d_first_ready : He.DefD := ⟨("first_ready", none), "first_ready", "first_ready", defArgs (topS 55), defBody (topS 55), defScope (topS 55), [], []⟩
def d__law_mixed : He.DefD := ⟨("_law_mixed", none), "_law_mixed", "_law_mixed", defArgs (topS 57), defBody (topS 57), defScope (topS 57), [], []⟩
def d__law_pool : He.DefD := ⟨("_law_pool", none), "_law_pool", "_law_pool", defArgs (topS 58), defBody (topS 58), defScope (topS 58), [], []⟩
def d__law_take : He.DefD := ⟨("_law_take", none), "_law_take", "_law_take", defArgs (topS 59), defBody (topS 59), defScope (topS 59), [], []⟩
def d__law_names : He.DefD := ⟨("_law_names", none), "_law_names", "_law_names", defArgs (topS 60), defBody (topS 60), defScope (topS 60), [], []⟩
def d__law_rule : He.DefD := ⟨("_law_rule", none), "_law_rule", "_law_rule", defArgs (topS 61), defBody (topS 61), defScope (topS 61), [], []⟩
def d__law_net : He.DefD := ⟨("_law_net", none), "_law_net", "_law_net", defArgs (topS 62), defBody (topS 62), defScope (topS 62), [], []⟩
def d__law_made : He.DefD := ⟨("_law_made", none), "_law_made", "_law_made", defArgs (topS 63), defBody (topS 63), defScope (topS 63), [], []⟩
def d__law_start : He.DefD := ⟨("_law_start", none), "_law_start", "_law_start", defArgs (topS 64), defBody (topS 64), defScope (topS 64), [], []⟩
def d__law_told : He.DefD := ⟨("_law_told", none), "_law_told", "_law_told", defArgs (topS 65), defBody (topS 65), defScope (topS 65), [], []⟩
def d__law_first : He.DefD := ⟨("_law_first", none), "_law_first", "_law_first", defArgs (topS 66), defBody (topS 66), defScope (topS 66), [], []⟩
def d__law_possible : He.DefD := ⟨("_law_possible", none), "_law_possible", "_law_possible", defArgs (topS 67), defBody (topS 67), defScope (topS 67), [], []⟩
def d__law_owner : He.DefD := ⟨("_law_owner", none), "_law_owner", "_law_owner", defArgs (topS 68), defBody (topS 68), defScope (topS 68), [], []⟩
def d__law_done : He.DefD := ⟨("_law_done", none), "_law_done", "_law_done", defArgs (topS 69), defBody (topS 69), defScope (topS 69), [], []⟩
def d__law_run : He.DefD := ⟨("_law_run", none), "_law_run", "_law_run", defArgs (topS 70), defBody (topS 70), defScope (topS 70), [], []⟩
def d__law_near : He.DefD := ⟨("_law_near", none), "_law_near", "_law_near", defArgs (topS 71), defBody (topS 71), defScope (topS 71), [], []⟩
def d__law_same : He.DefD := ⟨("_law_same", none), "_law_same", "_law_same", defArgs (topS 72), defBody (topS 72), defScope (topS 72), [], []⟩
def d__law_history : He.DefD := ⟨("_law_history", none), "_law_history", "_law_history", defArgs (topS 73), defBody (topS 73), defScope (topS 73), [], []⟩
def d__law_walked : He.DefD := ⟨("_law_walked", none), "_law_walked", "_law_walked", defArgs (topS 74), defBody (topS 74), defScope (topS 74), [], []⟩
def d__law_other_deed : He.DefD := ⟨("_law_other_deed", none), "_law_other_deed", "_law_other_deed", defArgs (topS 75), defBody (topS 75), defScope (topS 75), [], []⟩
def d__law_spoilt : He.DefD := ⟨("_law_spoilt", none), "_law_spoilt", "_law_spoilt", defArgs (topS 76), defBody (topS 76), defScope (topS 76), [], []⟩
def d__law_circle : He.DefD := ⟨("_law_circle", none), "_law_circle", "_law_circle", defArgs (topS 77), defBody (topS 77), defScope (topS 77), [], []⟩
def d__law_asked : He.DefD := ⟨("_law_asked", none), "_law_asked", "_law_asked", defArgs (topS 78), defBody (topS 78), defScope (topS 78), [], []⟩
def d__law_is : He.DefD := ⟨("_law_is", none), "_law_is", "_law_is", defArgs (topS 79), defBody (topS 79), defScope (topS 79), [], []⟩
def d__law_long : He.DefD := ⟨("_law_long", none), "_law_long", "_law_long", defArgs (topS 80), defBody (topS 80), defScope (topS 80), [], []⟩
def d__law_sixty : He.DefD := ⟨("_law_sixty", none), "_law_sixty", "_law_sixty", defArgs (topS 81), defBody (topS 81), defScope (topS 81), [], []⟩
def d_law : He.DefD := ⟨("law", none), "law", "law", defArgs (topS 82), defBody (topS 82), defScope (topS 82), [], []⟩
def fnL_0 : List He.DefD := [d_is_number, d_is_below, d_is_sequence, d_is_row, d_is_name, d_are_unlike, d_is_process, d_are_processes, d_is_channel, d_are_channels, d_is_act, d_is_rule, d_are_rules, d_start, d_owner, d_is_deed, d_act_word, d_rule_deeds, d_losses, d_at_hand, d_done, d_can_be_done, d_present_rows, d_without, d_changed]
def fnL_1 : List He.DefD := [d_played, d_worlds_on, d_history, d_rows_of, d_is_history, d_run_of, d_are_rows, d_many_events, d_least_way, d_first_ready, d__law_mixed, d__law_pool, d__law_take, d__law_names, d__law_rule, d__law_net, d__law_made, d__law_start, d__law_told, d__law_first, d__law_possible, d__law_owner, d__law_done, d__law_run, d__law_near]
def fnL_2 : List He.DefD := [d__law_same, d__law_history, d__law_walked, d__law_other_deed, d__law_spoilt, d__law_circle, d__law_asked, d__law_is, d__law_long, d__law_sixty, d_law, di_BadValue, di_BadStep, dm_Net___init__, dm_Net___eq__]
def fnL : List He.DefD := fnL_0 ++ fnL_1 ++ fnL_2
def gloL_0 : List Str := ["is_number", "is_below", "is_sequence", "is_row", "is_name", "are_unlike", "is_process", "are_processes", "is_channel", "are_channels", "is_act", "is_rule", "are_rules", "start", "owner", "is_deed", "act_word", "rule_deeds", "losses", "at_hand", "done", "can_be_done", "present_rows", "without", "changed"]
def gloL_1 : List Str := ["played", "worlds_on", "history", "rows_of", "is_history", "run_of", "are_rows", "many_events", "least_way", "first_ready", "_law_mixed", "_law_pool", "_law_take", "_law_names", "_law_rule", "_law_net", "_law_made", "_law_start", "_law_told", "_law_first", "_law_possible", "_law_owner", "_law_done", "_law_run", "_law_near"]
def gloL_2 : List Str := ["_law_same", "_law_history", "_law_walked", "_law_other_deed", "_law_spoilt", "_law_circle", "_law_asked", "_law_is", "_law_long", "_law_sixty", "law", "BadValue", "BadStep", "CutError", "Net", "ORDERED", "LOSSY", "KINDS"]
def gloL : List Str := gloL_0 ++ gloL_1 ++ gloL_2
def faX_0 : List He.Fa := [.int "MOST_PROCESSES" 5, .int "MOST_STATES" 8, .int "MOST_CHANNELS" 8, .int "MOST_RULES" 40, .int "MANY_TOKENS" 10, .int "LONGEST_NAME" 6, .int "MOST_DEEDS" 60, .str "LETTERS" "abcdefghijklmnopqrstuvwxyz", .cls "Net", .mkr "Net", .noat "Net" "processes", .noat "Net" "channels", .noat "Net" "rules"]
def faX : List He.Fa := faX_0
def faL : List He.Fa := gloL.map He.Fa.glo ++ (bltNames.map He.Fa.free ++ faX)
def xsL : List Xf := [.xc "BadValue" "at", .xc "BadStep" "at", .exm "BadStep" "BadStep" true, .tup "ORDERED" ["order", "order lossy"], .tup "LOSSY" ["order lossy", "loose lossy"], .tup "KINDS" ["order", "loose", "order lossy", "loose lossy"]]
abbrev RL : PySem.W.OpenRow := PySem.W.OpenLaw.row PySem.Challenge.rw_cutweave_k08_histories_and_spoilt_ones
abbrev hkL : PySem.W.Hook := hookX 5 faL fnL xsL
def obL (s : PySem.W.SharedT) : AlX := obsXG 5 faL fnL xsL (HandSHeadRun.getT s)
theorem obL_eq (s : PySem.W.SharedT) : obL s = hkL.obs s.abs := obsXG_eq (HandSHeadRun.getT_eq s)
def looseL_0 : List Str := ["__name__", "CutError", "BadValue", "BadStep", "Net", "MOST_PROCESSES", "MOST_STATES", "MOST_CHANNELS", "MOST_RULES", "MANY_TOKENS", "LONGEST_NAME", "LETTERS", "ORDERED", "LOSSY", "KINDS", "MOST_DEEDS", "is_number", "is_below", "is_sequence", "is_row", "is_name", "are_unlike", "is_process", "are_processes", "is_channel", "are_channels", "is_act", "is_rule", "are_rules", "start"]
def looseL_1 : List Str := ["owner", "is_deed", "act_word", "rule_deeds", "losses", "at_hand", "done", "can_be_done", "present_rows", "without", "changed", "played", "worlds_on", "history", "rows_of", "is_history", "run_of", "are_rows", "many_events", "least_way", "first_ready", "_law_mixed", "_law_pool", "_law_take", "_law_names", "_law_rule", "_law_net", "_law_made", "_law_start", "_law_told"]
def looseL_2 : List Str := ["_law_first", "_law_possible", "_law_owner", "_law_done", "_law_run", "_law_near", "_law_same", "_law_history", "_law_walked", "_law_other_deed", "_law_spoilt", "_law_circle", "_law_asked", "_law_is", "_law_long", "_law_sixty"]
def looseL : List Str := looseL_0 ++ looseL_1 ++ looseL_2
theorem runL (w : World) : HandSHeadRun.RunEq RL (PySem.W.view RL.prog [82]) hkL obL 3000 looseL w := by
  intro os
  kernel_rfl
end Cw

set_option maxHeartbeats 4000000
/-! a net made of data -/
namespace Cw
open PySem PySem.Spec PyProof.Rows L2
def itemsD (d : PyData) : List PyData := (items d).getD []
/-- a row as a tuple -/
def rowT (d : PyData) : PyData := .tuple (itemsD d)
def ruleT (d : PyData) : PyData := .tuple [atD d 0, atD d 1, rowT (atD d 2), atD d 3]
theorem Seq.it {d : PyData} {ds : List PyData} (e : Seq d ds) : itemsD d = ds := by
  unfold itemsD
  rw [e.items] <;> rfl
def netOf (d1 d2 d3 : PyData) : NetD := ⟨(itemsD d1).map rowT, (itemsD d2).map rowT, (itemsD d3).map ruleT⟩
/-- the first of the three arguments that is wrong -/
def netBad (d1 d2 d3 : PyData) : Option Nat :=
  if areProcs d1 = false then some 0 else if areChans (itemsD d1).length d2 = false then some 1 else if areRules (itemsD d1) (itemsD d2) d3 = false then some 2 else none
theorem procs_seq {d : PyData} (h : areProcs d = true) : ∃ ds, Seq d ds ∧ ds.length ≤ 5 ∧ ds.all isProcess = true := by
  unfold areProcs at h
  cases e : items d with
  | none =>
    rw [e] at h
    cases h
  | some ds =>
    rw [e] at h
    obtain ⟨h1, h2⟩ := bA h
    refine ⟨ds, ?_, of_decide_eq_true (bA h1).2, (bA h2).1⟩
    cases d with
    | list xs => exact .inl (by cases e; rfl)
    | tuple xs => exact .inr (by cases e; rfl)
    | _ => cases e
theorem chans_seq {n : Nat} {d : PyData} (h : areChans n d = true) : ∃ ds, Seq d ds ∧ ds.length ≤ 8 ∧ ds.all (isChan n) = true := by
  unfold areChans at h
  cases e : items d with
  | none =>
    rw [e] at h
    cases h
  | some ds =>
    rw [e] at h
    obtain ⟨h1, h2⟩ := bA h
    refine ⟨ds, ?_, of_decide_eq_true h1, (bA h2).1⟩
    cases d with
    | list xs => exact .inl (by cases e; rfl)
    | tuple xs => exact .inr (by cases e; rfl)
    | _ => cases e
theorem rules_seq {ps cs : List PyData} {d : PyData} (h : areRules ps cs d = true) : ∃ ds, Seq d ds ∧ ds.length ≤ 40 ∧ ds.all (isRule ps cs) = true := by
  unfold areRules at h
  cases e : items d with
  | none =>
    rw [e] at h
    cases h
  | some ds =>
    rw [e] at h
    obtain ⟨h1, h2⟩ := bA h
    refine ⟨ds, ?_, of_decide_eq_true h1, h2⟩
    cases d with
    | list xs => exact .inl (by cases e; rfl)
    | tuple xs => exact .inr (by cases e; rfl)
    | _ => cases e
theorem rule_parts {ps cs : List PyData} {d : PyData} (h : isRule ps cs d = true) : isRow 4 d = true ∧ ∃ as, Seq (atD d 2) as := by
  unfold isRule at h
  by_cases z : (!isRow 4 d || !isBelow (ps.length) (atD d 0)) = true
  · rw [if_pos z] at h
    cases h
  · rw [if_neg z] at h
    have r4 : isRow 4 d = true := by
      cases y : isRow 4 d with
      | true => rfl
      | false => simp [y] at z
    refine ⟨r4, ?_⟩
    split at h
    · have h2 := (bA (bA h).2).1
      unfold isAct at h2
      by_cases y : isRow 1 (atD d 2) = true
      · obtain ⟨as, e, _⟩ := isRow_ex y
        exact ⟨as, e⟩
      · rw [if_neg y] at h2
        by_cases x : isRow 3 (atD d 2) = true
        · obtain ⟨as, e, _⟩ := isRow_ex x
          exact ⟨as, e⟩
        · have x' : isRow 3 (atD d 2) = false := by simpa using x
          rw [x'] at h2
          simp at h2
    · cases h
section
variable {K : PySem.W.Frag} {σ : L2.St} {G H : Hp} {Q : VK} {v : V} {d : PyData} {ds : List PyData}
def optD {α : Type} (f : α → PyData) : Option α → PyData
  | some a => f a
  | none => .none
theorem rps_of {α : Type} {f : α → PyData} : ∀ {xs : List α} {ys : List V}, ys.length = xs.length → (∀ i, i < xs.length → ∃ y, ys[i]? = some y ∧ Rp K G y (optD f xs[i]?)) → Rps K G ys (xs.map f)
  | [], [], _, _ => .nil
  | [], _ :: _, h, _ => by simp at h
  | _ :: _, [], h, _ => by simp at h
  | x :: xs, y :: ys, h, k => by
    obtain ⟨y', h1, h2⟩ := k 0 (by simp)
    cases (show some y = some y' from h1)
    refine .cons h2 (rps_of (by simpa using h) fun i hi => ?_)
    obtain ⟨z, h3, h4⟩ := k (i + 1) (by simpa using hi)
    exact ⟨z, by simpa using h3, by simpa using h4⟩
theorem q_tupNew {D : Addr} {ys : List V} {es : List PyData} (hD : H D = some (.lst ys)) (x : Ex G H) (hr : Rps K G ys es) (q : ∀ G2 H2 p, Gro none G H G2 H2 → Rp K G2 (.ref p) (.tuple es) → Q (.ref p) H2) : rTupA K [.ref D] H Q :=
  ⟨D, ys, rfl, .inl ⟨.inl (.inl hD), fun p hp => q (L2.upd G p (.tup ys)) _ p (Gro.new x hp) (.tup (.inl (.inl upd_same)) (hr.mono (Ex.new (x.back hp))))⟩⟩
end
theorem Gro.put {a : Addr} {G H G' H' : Hp} {o : HO} (g : Gro (some a) G H G' H') (n : G' a = none) : Gro (some a) G H G' (L2.upd H' a o) :=
  ⟨g.g, Ex.mut g.w n, fun b u z h => by
    rw [upd_ne (fun e => z (by rw [e]))]
    exact g.k b u z h, g.n⟩
theorem Gro.then_ {a : Addr} {G H G1 H1 G2 H2 : Hp} (x : Gro (some a) G H G1 H1) (y : Gro none G1 H1 G2 H2) (h : H1 a ≠ none) : Gro (some a) G H G2 H2 := x.trans y.mono fun b e _ => by
  cases e
  exact h
theorem Gro.start {a : Addr} {G H H1 : Hp} (e : Ex G H) (k : Ex H H1) : Gro (some a) G H G H1 := (Gro.up e k).mono
/-- what a made net is -/
theorem net_at {K : PySem.W.Frag} {C a dx : Addr} {G' : Hp} {u1 u2 u3 : V} {N : NetD} (na : G' a = none) (r1 : Rp K G' u1 (.tuple N.p)) (r2 : Rp K G' u2 (.tuple N.c)) (r3 : Rp K G' u3 (.tuple N.r)) :
    NetAt K C (L2.upd G' a (.ins C dx [("processes", u1), ("channels", u2), ("rules", u3)])) a N :=
  ⟨dx, u1, u2, u3, upd_same, r1.mono (Ex.new na), r2.mono (Ex.new na), r3.mono (Ex.new na)⟩
/-- __init__ of a net -/
def sp_net (K : PySem.W.Frag) (C CB : Addr) : Sp := fun vs H Q E => ∃ (G : Hp) (a dx : Addr) (v1 v2 v3 : V) (d1 d2 d3 : PyData), vs = [.ref a, v1, v2, v3] ∧ Ex G H ∧ G a = none ∧ H a = some (.ins C dx []) ∧ Rp K G v1 d1 ∧ Shp d1 ∧ Rp K G v2 d2 ∧ Shp d2 ∧ Rp K G v3 d3 ∧ Shp d3 ∧
  (∀ (k : Nat) (H1 : Hp) (d : Addr), netBad d1 d2 d3 = some k → Ex H H1 → H1 d = none → E (.ref CB) (some d) (L2.upd H1 d (.xd [("at", .int k)]))) ∧
  (netBad d1 d2 d3 = none → ∀ G' H' u1 u2 u3, Gro (some a) G H G' H' → H' a = some (.ins C dx [("processes", u1), ("channels", u2), ("rules", u3)]) → Rp K G' u1 (.tuple (netOf d1 d2 d3).p) → Rp K G' u2 (.tuple (netOf d1 d2 d3).c) → Rp K G' u3 (.tuple (netOf d1 d2 d3).r) → Q .non H')
/-- Net(..) of three right ones -/
theorem q_net {K : PySem.W.Frag} {C CB : Addr} {G H : Hp} {Q : VK} {E : XK} {v1 v2 v3 : V} {d1 d2 d3 : PyData} (e : Ex G H) (h1 : Rp K G v1 d1) (s1 : Shp d1) (h2 : Rp K G v2 d2) (s2 : Shp d2) (h3 : Rp K G v3 d3) (s3 : Shp d3) (good : netBad d1 d2 d3 = none)
    (q : ∀ G' H' x, Gro none G H G' H' → NetAt K C G' x (netOf d1 d2 d3) → Q (.ref x) H') :
    ∀ x dx, H x = none → H dx = none → dx ≠ x → sp_net K C CB [.ref x, v1, v2, v3] (upd (upd H dx (.own x)) x (.ins C dx [])) (fun v H2 => v = .non ∧ Q (.ref x) H2) E := by
  intro x dx hx hdx ne
  have hx2 : upd H dx (.own x) x = none := by
    rw [upd_ne (Ne.symm ne)]
    exact hx
  have gx : G x = none := e.back hx
  refine ⟨G, x, dx, v1, v2, v3, d1, d2, d3, rfl, e.trans ((Ex.new hdx).trans (Ex.new hx2)), gx, upd_same, h1, s1, h2, s2, h3, s3, fun k H1 d z => ?_, fun _ G' H' u1 u2 u3 gr ha r1 r2 r3 => ⟨rfl, ?_⟩⟩
  · rw [good] at z
    cases z
  · have na : G' x = none := gr.n x (by rw [upd_same]; exact fun z => nomatch z) gx
    refine q (upd G' x (.ins C dx [("processes", u1), ("channels", u2), ("rules", u3)])) H' x ⟨gr.g.trans (Ex.new na), Ex.add gr.w ha, fun b o _ h => ?_, fun b hb gb => ?_⟩ (net_at na r1 r2 r3)
    · exact gr.k b o (fun z => by
        cases z
        rw [hx] at h
        cases h) (upd_old (upd_old h hdx) hx2)
    · have nb : b ≠ x := fun z => by
        rw [z] at hb
        exact hb hx
      rw [upd_ne nb]
      refine gr.n b (fun z => ?_) gb
      rw [upd_ne nb] at z
      cases y : H b with
      | none => exact hb y
      | some o =>
        rw [upd_old y hdx] at z
        cases z
end Cw

set_option maxHeartbeats 4000000
/-! tuple * 1, tuple * 0 -/
namespace Cw
open PySem PySem.Spec PyProof.Rows L2
theorem mul_one (l : Addr) (items : Array Value) (n : Nat) (dd : Option Addr) (sl : Array (Option Value)) (u : Tok) :
    Meets (Builtin.«tuple.__mul__» ⟨[.ref l, .int 1 u], []⟩) (fun _ R s => s.heap.get? l = some { cls := .type "tuple", dict := dd, data := .seq items n, slots := sl } ∧ R (.ok (.ret (Value.ref l))) s) :=
  .of_wp fun prog w A R s h => by
    obtain ⟨hp, g, d, tk, os⟩ := s
    obtain ⟨hl, h⟩ := h
    have f1 := AutoSeq1.idx_int
    wp_walk using wpAny_loadPart' hl
    exact ⟨_, rfl, h⟩
theorem mul_zero (l : Addr) (items : Array Value) (n : Nat) (dd : Option Addr) (sl : Array (Option Value)) (u : Tok) (c1 : items.isEmpty = false) :
    Meets (Builtin.«tuple.__mul__» ⟨[.ref l, .int 0 u], []⟩) (fun _ R s => s.heap.get? l = some { cls := .type "tuple", dict := dd, data := .seq items n, slots := sl } ∧
      R (.ok (.ret (Value.ref s.heap.objs.size))) { s with heap := s.heap.push { cls := Value.type "tuple", data := Data.seq #[] }, toks := s.toks }) :=
  .of_wp fun prog w A R s h => by
    obtain ⟨hp, g, d, tk, os⟩ := s
    obtain ⟨hl, h⟩ := h
    have f1 := AutoSeq1.idx_int
    have c2 : (items.isEmpty || (0 : Int) == 1) = false := by
      rw [c1] <;> rfl
    wp_walk using wpAny_loadPart' hl
    repeat (first
      | (refine wpAny_ite_false (decide_eq_false (by rw [c2]; exact Bool.false_ne_true)) ?_; wp_walk using wpAny_loadPart' hl)
      | (refine wpAny_ite_false (by rw [c1]; exact Bool.false_ne_true) ?_; wp_walk using wpAny_loadPart' hl))
    exact ⟨_, rfl, h⟩
/-- a tuple times 0 or 1 -/
def rRep01 (K : PySem.W.Frag) : R2 := fun x y H Q => ∃ l xs, x = .ref l ∧ SqT K H l xs ∧ xs ≠ [] ∧ ((y = .int 1 ∧ Q (.ref l) H) ∨ (y = .int 0 ∧ ∀ p, H p = none → Q (.ref p) (upd H p (.tup []))))
theorem op_rep01 {X : Cx} : OpR X (binaryOp .Mult) (rRep01 X.K) := by
  rintro pins s σ H x y v u Q I rx ry ⟨l, xs, rfl, hT, hne, h⟩
  cases rx
  obtain ⟨its, r, ⟨⟨cls, dd, data, sl⟩, ho, hc, n, hd⟩, hs⟩ := I.tuple hT
  simp only at hc hd
  subst hc hd
  have hi : its.toArray.isEmpty = false := by
    cases r with
    | nil => exact absurd rfl hne
    | cons _ _ => rfl
  rcases h with ⟨rfl, q⟩ | ⟨rfl, q⟩
  · obtain ⟨t, rfl⟩ := ry
    refine wpAny_binaryOp_repeat_ref (T := "tuple") (U := "int") (by decide) ⟨_, ho, rfl⟩ (fun s' => typeIs_int s' 1 t) noFill_tuple_mul F.fills_int_mul F.slot_int_rmul repeat_tuple F.slot_int_index.lookup
      (call_meets F.slot_int_rmul (typeIs_int s 1 t) F.entry_int_rmul (F.args_int_rmul_2 _ _) (int_rmul_tuple 1 t l its.toArray n dd sl)
        ⟨ho, rfl, ⟨_, ho, rfl⟩, call_meets F.slot_tuple_mul ⟨_, ho, rfl⟩ F.entry_tuple_mul (F.args_tuple_mul_2 _ _) (mul_one l its.toArray n dd sl t) ⟨ho, ?_⟩⟩)
    exact ⟨.ref l, H, I, rfl, q⟩
  · obtain ⟨t, rfl⟩ := ry
    refine wpAny_binaryOp_repeat_ref (T := "tuple") (U := "int") (by decide) ⟨_, ho, rfl⟩ (fun s' => typeIs_int s' 0 t) noFill_tuple_mul F.fills_int_mul F.slot_int_rmul repeat_tuple F.slot_int_index.lookup
      (call_meets F.slot_int_rmul (typeIs_int s 0 t) F.entry_int_rmul (F.args_int_rmul_2 _ _) (int_rmul_tuple 0 t l its.toArray n dd sl)
        ⟨ho, rfl, ⟨_, ho, rfl⟩, call_meets F.slot_tuple_mul ⟨_, ho, rfl⟩ F.entry_tuple_mul (F.args_tuple_mul_2 _ _) (mul_zero l its.toArray n dd sl t hi) ⟨ho, ?_⟩⟩)
    exact ⟨.ref s.heap.objs.size, _, I.laid (t' := s.toks) (o := .tup []) (fun b ob q => Heap.get?_push_of_some _ q) (Nat.le_refl _) ⟨Nat.zero_le _, [], .nil, IsTup.new _ _⟩, rfl, q _ (I.hok.fresh (Nat.le_refl _))⟩
def rMulB (K : PySem.W.Frag) : R2 := fun x y H Q => rMulA K x y H Q ∨ rRep01 K x y H Q
theorem op_mulB {X : Cx} {K : PySem.W.Frag} (h : X.K = K) : OpR X (binaryOp .Mult) (rMulB K) := h ▸ OpR.or op_mulA op_rep01
section
variable {K : PySem.W.Frag} {G H : Hp} {Q : VK} {i j : Int} {l : Addr} {d : PyData} {m : Nat}
theorem q_mulI (h : (-(2 ^ 64) < i ∧ i < 2 ^ 64) ∨ (-(2 ^ 64) < j ∧ j < 2 ^ 64)) (q : Q (.int (i * j)) H) : rMulB K (.int i) (.int j) H Q := .inl (q_mul h q)
/-- (d,) * m -/
theorem q_rep1 (hv : Rp K G (.ref l) (.tuple [d])) (x : Ex G H) (hm : m ≤ 1000) (q : ∀ G2 H2 p, Gro none G H G2 H2 → Rp K G2 (.ref p) (.tuple (List.replicate m d)) → Q (.ref p) H2) : rMulB K (.ref l) (.int (m : Nat)) H Q := by
  obtain ⟨a, vs, e, hS, hr⟩ := rp_tup hv
  cases e
  obtain ⟨v, _, rfl, r1, hr⟩ := rps_cons hr
  obtain rfl := rps_nil hr
  have hT := x.st hS
  match m, hm, q with
  | 0, _, q => exact .inr ⟨l, _, rfl, hT, by simp, .inr ⟨rfl, fun p hp => q (L2.upd G p (.tup [])) _ p (Gro.new x hp) (.tup (.inl (.inl upd_same)) .nil)⟩⟩
  | 1, _, q => exact .inr ⟨l, _, rfl, hT, by simp, .inl ⟨rfl, q G H l (Gro.refl x) hv⟩⟩
  | n + 2, hm, q =>
    refine .inl (.inr (.inr ⟨l, _, _, rfl, rfl, hT, by simp, by omega, by omega, by simp, fun p hp => ?_⟩))
    have e : (List.replicate (((n + 2 : Nat) : Int)).toNat [v]).flatten = List.replicate (n + 2) v := by
      rw [Int.toNat_natCast]
      generalize n + 2 = k
      induction k with
      | zero => rfl
      | succ k ih => rw [List.replicate_succ, List.flatten_cons, ih] <;> rfl
    rw [e]
    exact q (L2.upd G p (.tup (List.replicate (n + 2) v))) _ p (Gro.new x hp) (.tup (.inl (.inl upd_same)) (Rps.rep (r1.mono (Ex.new (x.back hp))) _))
end
/-! calls with keywords alone -/
/-- the keywords' values in the order of the parameters -/
def perm {α : Type} (p : List Nat) (l : List α) : List α := p.filterMap fun i => l[i]?
theorem vals_perm {zs : List V} {ws : List Value} (r : Vals zs ws) : ∀ p : List Nat, Vals (perm p zs) (perm p ws)
  | [] => .nil
  | i :: p => by
    have ih := vals_perm r p
    have hl := r.length
    unfold perm at ih ⊢
    by_cases hi : i < zs.length
    · have h1 : zs[i]? = some zs[i] := List.getElem?_eq_getElem hi
      obtain ⟨w, h2, h3⟩ := r.get h1
      rw [List.filterMap_cons, List.filterMap_cons, h1, h2]
      exact .cons h3 ih
    · rw [List.filterMap_cons, List.filterMap_cons, List.getElem?_eq_none (by omega), List.getElem?_eq_none (by omega)]
      exact ih
/-- a def that can be called with the keywords ks -/
def CalXK (P : Program) (w : World) (K : PySem.W.Frag) (mg : Str → Option Value) (base : Heap) (CX : CXT) (k : Nat) (x : Str) (ps ks : List Str) (p : List Nat) (sp : Sp) : Prop :=
  ∃ f fd, FnOk P w K mg base CX k f fd ps sp ∧ mg x = some (.ref f) ∧ PySem.W.keepIn K (.ref f) = true ∧ ∀ (s : Shared) (ws : List Value), ws.length = ks.length → BindsTo s fd ⟨[], ks.zip ws⟩ (ps.zip (perm p ws))
def tCallKw (n : Nat) (sp : Sp) (p : List Nat) (E : L2.St → XK) (tk : TA) : TE := fun σ H Q => tk σ H fun zs H1 => zs.length = n ∧ sp (perm p zs) H1 Q (E σ)
section
variable {P : Program} {w : World} {K : PySem.W.Frag} {mg : Str → Option Value} {base : Heap} {CX : CXT}
theorem cal_fn {x : Str} {st : Stmt} {f : Addr} {fd : FuncData} {ps : List Str} {k : Nat} {sp : Sp} (F : FnP K x st f fd) (hm : mg x = some (.ref f)) (ok : FnOk P w K mg base CX0 k f fd ps sp)
    (hb : ∀ (dV kV doc pm : Value) (an : Option Addr) (cdv ct : Value) (us : List Value), us.length = ps.length → bindArgs (PySem.W.fnOf x x (defArgs st) (defBody st) (defScope st) .none kV doc pm an cdv ct) ⟨us, []⟩ = pure (ps.zip us)) : Cal P w K mg base k x ps sp := by
  refine ⟨f, fd, ok, hm, F.kp, ?_⟩
  obtain ⟨oc, od, dV, kV, doc, pm, an, cdv, ct, osl, rfl, lk, hcd, hd, hk⟩ := F.ex
  rcases hd with ⟨_, rfl⟩ | ⟨z, _⟩
  · exact .all fun us hu => hb .none kV doc pm an cdv ct us hu
  · exact absurd rfl z
theorem calX_fn {x : Str} {st : Stmt} {f : Addr} {fd : FuncData} {ps : List Str} {k : Nat} {sp : Sp} (F : FnP K x st f fd) (hm : mg x = some (.ref f)) (ok : FnOk P w K mg base (L2.CX P w) k f fd ps sp)
    (hb : ∀ (dV kV doc pm : Value) (an : Option Addr) (cdv ct : Value) (us : List Value), us.length = ps.length → bindArgs (PySem.W.fnOf x x (defArgs st) (defBody st) (defScope st) .none kV doc pm an cdv ct) ⟨us, []⟩ = pure (ps.zip us)) : CalX P w K mg base k x ps sp := by
  refine ⟨f, fd, ok, hm, F.kp, ?_⟩
  obtain ⟨oc, od, dV, kV, doc, pm, an, cdv, ct, osl, rfl, lk, hcd, hd, hk⟩ := F.ex
  rcases hd with ⟨_, rfl⟩ | ⟨z, _⟩
  · exact .all fun us hu => hb .none kV doc pm an cdv ct us hu
  · exact absurd rfl z
theorem calK_fn {x : Str} {st : Stmt} {f : Addr} {fd : FuncData} {ps ks : List Str} {p : List Nat} {k : Nat} {sp : Sp} (F : FnP K x st f fd) (hm : mg x = some (.ref f)) (ok : FnOk P w K mg base CX k f fd ps sp)
    (hb : ∀ (dV kV doc pm : Value) (an : Option Addr) (cdv ct : Value) (ws : List Value), ws.length = ks.length → bindArgs (PySem.W.fnOf x x (defArgs st) (defBody st) (defScope st) .none kV doc pm an cdv ct) ⟨[], ks.zip ws⟩ = pure (ps.zip (perm p ws))) : CalXK P w K mg base CX k x ps ks p sp := by
  refine ⟨f, fd, ok, hm, F.kp, ?_⟩
  obtain ⟨oc, od, dV, kV, doc, pm, an, cdv, ct, osl, rfl, lk, hcd, hd, hk⟩ := F.ex
  rcases hd with ⟨_, rfl⟩ | ⟨z, _⟩
  · exact fun s ws hw => .of_eq (hb .none kV doc pm an cdv ct ws hw)
  · exact absurd rfl z
theorem fnokX_of {x : Str} {st : Stmt} {f : Addr} {fd : FuncData} {N ps : List Str} {k : Nat} {sp : Sp} (F : FnP K x st f fd) (S : FnScope N ps (defScope st)) (len : ∀ vs H Q E, sp vs H Q E → vs.length = ps.length)
    (body : ∀ (cdv : Value) (A : Around) (outer : List Env) (s : Shared) (H : Hp) (vs : List V) (Q : VK) (E : XK), Room k (A.deeper (envOfC x (defScope st) s.heap.objs.size f cdv)) → sp vs H Q E →
      ∃ t σ, PSs (cxOf (L2.CX P w) P w K mg base N x (defScope st) f cdv A outer s H E) (defBody st) t ∧ start N vs = σ ∧ t { nx := fun _ H' => Q .non H', rt := Q } σ H) : FnOk P w K mg base (L2.CX P w) (k + 1) f fd ps sp :=
  FunD.ok F S len (fun cdv A outer s H vs Q E hr h => by
    obtain ⟨t, σ, h1, rfl, h2⟩ := body cdv A outer s H vs Q E hr h
    exact ⟨t, h1, h2⟩)
end
section
variable {X : Cx} {k : Nat} {x : Str} {ps ks : List Str} {pm : List Nat} {sp : Sp} {kws : List Keyword} {tk : TA} {p pos : Pos} {CX : CXT}
theorem pe_kwS {E : L2.St → XK} (C : CalXK X.prog X.w X.K X.mg X.base CX k x ps ks pm sp) (hr : Room k X.A) (hg : Gl X x) (hx : ∀ σ, PassesAt CX X σ (E σ)) (hkw : PK X kws tk) (hall : (backToKw pos (keywordEach kws X.env)).all (·.1.isSome) = true := by rfl) (hks : (backToKw pos (keywordEach kws X.env)).filterMap (·.1) = ks := by rfl)
    (hdb : (x == ("__debug__" : Str)) = false := by decide) (hpl : ((backTo pos (starEach [] X.env)).any (·.1) || (backToKw pos (keywordEach kws X.env)).any (·.1.isNone)) = false := by rfl) : PE X (.Call (.Name x p) [] kws pos) (tCallKw ks.length sp pm E tk) := by
  obtain ⟨f, fd, F, hm, hk, hb⟩ := C
  refine ⟨fun pins s σ H Q I h => ?_⟩
  refine wpAny_Call_Name_kw (ld_glob I hg hm ?_ hdb)
  refine PySem.W.callWith_KW0 (h₀ := X.base) I.ok.mod.kin hk hall (thn (hkw.run pos pins s σ H _ I h) fun ws s1 ⟨zs, H1, I1, r, hl, q⟩ => ⟨I1.kIn, ?_⟩) hpl
  rw [hks]
  refine wpAny_call (codeAny_mono (F.run X.A X.stack s1 H1 ⟨[], ks.zip ws⟩ _ _ Q (E σ) hr I1.env0 (hb s1 ws (r.length.symm.trans hl)) (vals_perm r pm) q) fun z s' y => ?_)
  cases z with
  | error e => exact hx σ pins H1 s1 e s' I1 y
  | ok fl =>
    cases fl with
    | ret u => exact I1.after y
    | next | brk | cont => exact False.elim y
theorem q_kw {n : Nat} {E : L2.St → XK} {σ : L2.St} {H : Hp} {Q : VK} (h : tk σ H fun zs H1 => zs.length = n ∧ sp (perm pm zs) H1 Q (E σ)) : tCallKw n sp pm E tk σ H Q := h
end
theorem px0 {X : Cx} : ∀ σ, PassesAt CX0 X σ ((fun _ => E0) σ) := fun σ pins H s e s' _ c => (show False from c).elim
theorem pxL {X : Cx} : ∀ σ, PassesAt (L2.CX X.prog X.w) X σ ((fun _ => E0) σ) := fun σ pins H s e s' _ c => by
  obtain ⟨_, _, _, _, _, _, _, _, _, _, _, _, z⟩ := c
  exact z.elim
/-! what a net's start is, whose a deed is -/
def startD (N : NetD) : PyData := .tuple [.tuple (List.replicate N.p.length (.int 0)), .tuple (List.replicate N.c.length (.int 0)), .tuple (List.replicate N.c.length (.tuple []))]
/-- rows as a made net keeps them -/
structure NOk (N : NetD) : Prop where
  r : ∀ x ∈ N.r, ∃ (p s : Int) (wd : Str) (as : List PyData) (t : Int), x = .tuple [.int p, .int s, .tuple (.str wd :: as), .int t]
  c : ∀ x ∈ N.c, ∃ (z : Str) (g t : Int) (k : Str), x = .tuple [.str z, .int g, .int t, .str k]
  lp : N.p.length ≤ 5
  lc : N.c.length ≤ 8
  lr : N.r.length ≤ 40
  sp : Shp (.tuple N.p)
  sc : Shp (.tuple N.c)
  sr : Shp (.tuple N.r)
def ruleAt (N : NetD) (i : Int) : PyData := N.r.getD i.toNat .none
def chanAt (N : NetD) (i : Int) : PyData := N.c.getD i.toNat .none
def wordD (N : NetD) (d : PyData) : PyData := if isBelow N.r.length d then atD (atD (ruleAt N (natD d)) 2) 0 else .none
def isDeedD (N : NetD) (d : PyData) : Bool :=
  if isRow 2 d then PyData.eqv (atD d 0) (.str "act") && [PyData.str "do", .str "send"].any fun k => PyData.eqv k (wordD N (atD d 1))
  else if !isRow 3 d || !isNum (atD d 2) then false
  else if PyData.eqv (atD d 0) (.str "take") then PyData.eqv (wordD N (atD d 1)) (.str "take")
  else PyData.eqv (atD d 0) (.str "lose") && (isBelow N.c.length (atD d 1) && [PyData.str "order lossy", .str "loose lossy"].any fun k => PyData.eqv k (atD (chanAt N (natD (atD d 1))) 3))
def ownerD (N : NetD) (d : PyData) : PyData := if PyData.eqv (atD d 0) (.str "lose") then atD (chanAt N (natD (atD d 1))) 2 else atD (ruleAt N (natD (atD d 1))) 0
end Cw

set_option maxHeartbeats 4000000
/-! deeds, whose they are -/
namespace Cw
open PySem PySem.Spec PyProof.Rows L2
theorem eqv_str {x : PyData} {z : Str} (h : PyData.eqv x (.str z) = true) : x = .str z := by
  cases x with
  | str y =>
    rw [PyData.eqv] at h
    rw [eq_of_beq h]
  | _ => rw [PyData.eqv] at h; cases h
theorem str_eqv (z : Str) : PyData.eqv (.str z) (.str z) = true := by
  rw [PyData.eqv]
  exact beq_self_eq_true z
theorem eqv_strs {y z : Str} : PyData.eqv (.str y) (.str z) = (y == z) := by rw [PyData.eqv]
theorem eqv_none {z : Str} : PyData.eqv (.str z) .none = false := by rw [PyData.eqv]
theorem word_below {N : NetD} {d : PyData} {z : Str} (h : wordD N d = .str z) : isBelow N.r.length d = true := by
  unfold wordD at h
  by_cases y : isBelow N.r.length d = true
  · exact y
  · rw [if_neg y] at h
    cases h
/-- what a deed is -/
theorem deed_is {N : NetD} {d : PyData} (h : isDeedD N d = true) :
    (∃ (x0 : PyData) (k : Nat) (r : List PyData), k < N.r.length ∧ Seq d (x0 :: .int k :: r) ∧ PyData.eqv x0 (.str "lose") = false) ∨ (∃ (x0 : PyData) (k : Nat) (r : List PyData), k < N.c.length ∧ Seq d (x0 :: .int k :: r) ∧ PyData.eqv x0 (.str "lose") = true) := by
  unfold isDeedD at h
  have fin : ∀ {x1 : PyData} {n : Nat}, isBelow n x1 = true → ∃ k : Nat, k < n ∧ x1 = .int k := fun {x1 n} hb => by
    obtain ⟨i, rfl, i0, i1⟩ := below_int hb
    obtain ⟨k, rfl⟩ := Int.eq_ofNat_of_zero_le i0
    exact ⟨k, by omega, rfl⟩
  by_cases r2 : isRow 2 d = true
  · rw [if_pos r2] at h
    obtain ⟨x0, x1, hs⟩ := row2 r2
    rw [show atD d 0 = x0 from Seq.at hs 0, show atD d 1 = x1 from Seq.at hs 1] at h
    obtain ⟨h1, h2⟩ := bA h
    obtain rfl := eqv_str h1
    have hb : isBelow N.r.length x1 = true := by
      cases y : isBelow N.r.length x1 with
      | true => rfl
      | false =>
        rw [wordD, y, if_neg Bool.false_ne_true] at h2
        simp [eqv_none] at h2
    obtain ⟨k, hk, rfl⟩ := fin hb
    exact .inl ⟨_, k, [], hk, hs, by decide +kernel⟩
  · rw [if_neg r2] at h
    by_cases z : (!isRow 3 d || !isNum (atD d 2)) = true
    · rw [if_pos z] at h
      cases h
    · rw [if_neg z] at h
      have r3 : isRow 3 d = true := by
        cases y : isRow 3 d with
        | true => rfl
        | false => simp [y] at z
      obtain ⟨x0, x1, x2, hs⟩ := row3 r3
      rw [show atD d 0 = x0 from Seq.at hs 0, show atD d 1 = x1 from Seq.at hs 1] at h
      by_cases t : PyData.eqv x0 (.str "take") = true
      · rw [if_pos t] at h
        obtain rfl := eqv_str t
        obtain ⟨k, hk, rfl⟩ := fin (word_below (eqv_str h))
        exact .inl ⟨_, k, [x2], hk, hs, by decide +kernel⟩
      · rw [if_neg t] at h
        obtain ⟨h1, h2⟩ := bA h
        obtain ⟨k, hk, rfl⟩ := fin (bA h2).1
        exact .inr ⟨x0, k, [x2], hk, hs, h1⟩
theorem erase_perm {α : Type} : ∀ {xs : List α} {k : Nat} {y : α}, xs[k]? = some y → List.Perm xs (y :: xs.eraseIdx k)
  | [], k, y, h => by simp at h
  | x :: xs, 0, y, h => by
    cases (show some x = some y from h)
    exact List.Perm.refl _
  | x :: xs, k + 1, y, h => by
    have ih := erase_perm (xs := xs) (k := k) (y := y) (by simpa using h)
    exact (List.Perm.cons x ih).trans (List.Perm.swap y x _)
theorem erase_map {α β : Type} (f : α → β) : ∀ (xs : List α) (k : Nat), (xs.map f).eraseIdx k = (xs.eraseIdx k).map f
  | [], k => by simp
  | x :: xs, 0 => rfl
  | x :: xs, k + 1 => by
    show f x :: (xs.map f).eraseIdx k = f x :: (xs.eraseIdx k).map f
    rw [erase_map f xs k]
theorem seqIx_nat {k n : Nat} (h : k < n) : seqIndex? (k : Int) n = some k := by
  unfold seqIndex?
  rw [if_neg (show ¬ ((k : Int) < 0) by omega)]
  show (if (decide (0 ≤ (k : Int)) && decide ((k : Int) < n)) = true then some (k : Int).toNat else none) = some k
  rw [decide_eq_true (by omega), decide_eq_true (by omega)] <;> rfl
theorem q_popAt {H : Hp} {Q : VK} {l : Addr} {xs : List V} {k : Nat} {y : V} (h : H l = some (.lst xs)) (hn : xs.length ≤ 1000000) (hk : xs[k]? = some y) (q : Q y (L2.upd H l (.lst (xs.eraseIdx k)))) : rPopA (.ref l) [.int (k : Nat)] H Q := by
  have hl := (List.getElem?_eq_some_iff.mp hk).1
  exact .inr ⟨l, xs, k, k, y, rfl, rfl, h, by omega, by omega, seqIx_nat hl, hk, q⟩
/-- [x, y][int(c)] -/
theorem q_ixIf {K : PySem.W.Frag} {H : Hp} {Q : VK} {p : Addr} {x y : V} {c : Bool} (h : H p = some (.lst [x, y])) (q : ∀ v, v = x ∨ v = y → Q v H) : rIx K (.ref p) (.int (if c = true then 1 else 0)) H Q := by
  cases c with
  | true => exact q_ixC h (v := y) rfl (q y (.inr rfl))
  | false => exact q_ixC h (v := x) rfl (q x (.inl rfl))
theorem mod_step {a m : Int} (h0 : 0 ≤ a) (h1 : a < 2 * m) : a % m = a ∨ a % m = a - m := by
  by_cases h : a < m
  · exact .inl (Int.emod_eq_of_lt h0 h)
  · refine .inr ?_
    rw [← Int.sub_emod_right]
    exact Int.emod_eq_of_lt (by omega) (by omega)
theorem Gro.mutb {b : Addr} {G H G' H1 H2 : Hp} (g : Gro (some b) G H G' H1) (m : Mut b H1 H2) (gb : G' b = none) : Gro (some b) G H G' H2 :=
  ⟨g.g, g.w.mu gb m, fun a o z h => m a o (fun e => z (by rw [e])) (g.k a o z h), g.n⟩
/-- a new object, known; H has changed at b since -/
theorem Gro.newb {b p : Addr} {G H G' H1 : Hp} {o : HO} (g : Gro (some b) G H G' H1) (hp : H1 p = none) (hHp : H p = none) : Gro (some b) G H (L2.upd G' p o) (L2.upd H1 p o) :=
  ⟨g.g.trans (Ex.new (g.w.back hp)), (Gro.new g.w hp).w, fun a u z h => upd_old (g.k a u z h) hp, fun a ha ga => by
    have na : a ≠ p := fun z => ha (by rw [z]; exact hHp)
    rw [upd_ne na]
    exact g.n a ha ga⟩
/-- what is new now was new at first: only b may have gone -/
theorem Gro.fresh {b p : Addr} {G H G' H1 : Hp} (g : Gro (some b) G H G' H1) (hp : H1 p = none) (nb : p ≠ b) : H p = none := by
  cases e : H p with
  | none => rfl
  | some o =>
    rw [g.k p o (fun z => nb (by cases z; rfl)) e] at hp
    cases hp
/-- a cell that is new since H and that G' does not know is changed -/
theorem Gro.cell {b l : Addr} {G H G' H1 : Hp} {o : HO} (g : Gro (some b) G H G' H1) (gl : G' l = none) (hl : H l = none) : Gro (some b) G H G' (L2.upd H1 l o) :=
  ⟨g.g, Ex.mut g.w gl, fun a u z h => upd_mu (g.k a u z h) (ne_of_none h hl), g.n⟩
/-- [c for c in range(n) if ..] -/
theorem q_lcRF {σ : L2.St} {G H : Hp} {Q : VK} {tt : TT} {ws : List Nat} {k : Nat} (n : Nat) (hn : n ≤ 1000000) (x : Ex G H) (R : Nat → Bool) (hw : ∀ v, wipe ((wipe σ ws).set k (some v)) ws = wipe σ ws) (hk : ∀ v, ((wipe σ ws).set k (some v))[k]? = some (some v))
    (body : ∀ i : Nat, i < n → ∀ G' H', Gro none G H G' H' → ∀ C : Bool → Hp → Prop, (∀ G2 H2, Gro none G' H' G2 H2 → C (R i) H2) → tt ((wipe σ ws).set k (some (.int (i : Nat)))) H' C)
    (done : ∀ D G' H', Gro none G H G' H' → G' D = none → H D = none → H' D = some (.lst (((List.range n).filter R).map fun i => V.int (i : Nat))) → Q (.ref D) H') : kcRng1 (gName k) tt (tVar k) ws σ Q [.int (n : Nat)] H := by
  refine q_rng_lc n hn (fun D hD => ⟨fun i H' => ∃ G', Gro none G H G' H' ∧ G' D = none ∧ H' D = some (.lst (((List.range i).filter R).map fun i => V.int (i : Nat))), ?_, ?_, ?_⟩)
  · exact ⟨G, ⟨Ex.refl G, x.trans (Ex.new hD), fun a o _ h => Ex.new hD a o h, fun _ _ h => h⟩, x.back hD, upd_same⟩
  · rintro i H' hi ⟨G', gr, gD, hl⟩
    refine ⟨hw _, ?_⟩
    refine body i hi G' H' gr _ fun G2 H2 g2 => ?_
    have gD2 : G2 D = none := g2.n D (by rw [hl]; exact fun z => nomatch z) gD
    have hl2 := g2.ex _ _ hl
    have t := gr.trans0 g2
    have er : (List.range (i + 1)).filter R = (List.range i).filter R ++ if R i = true then [i] else [] := by
      rw [List.range_succ, List.filter_append]
      by_cases z : R i = true <;> simp [z]
    cases hR : R i with
    | true =>
      refine iteT ⟨_, hk _, _, hl2, line_lt ?_, G2, ⟨t.g, Ex.mut t.w gD2, fun a o z h => ?_, t.n⟩, gD2, ?_⟩
      · rw [List.length_map]
        have := List.length_filter_le R (List.range i)
        rw [List.length_range] at this
        omega
      · rw [upd_ne (ne_of_none h hD)]
        exact t.k a o z h
      · rw [er, hR, if_pos rfl, List.map_append]
        exact upd_same
    | false =>
      refine iteF ⟨G2, t, gD2, ?_⟩
      rw [er, hR, if_neg Bool.false_ne_true, List.append_nil]
      exact hl2
  · rintro H' ⟨G', gr, gD, hl⟩
    exact done D G' H' gr gD hD hl
theorem eqv_int (x y : Int) : PyData.eqv (.int x) (.int y) = decide (x = y) := by
  rw [PyData.eqv]
  by_cases z : x = y <;> simp [z]
/-- whether the channel i begins or ends at p -/
def meB (cs : List PyData) (p : Nat) (i : Nat) : Bool := [atD (cs.getD i .none) 1, atD (cs.getD i .none) 2].any fun z => PyData.eqv z (.int p)
/-- a cell that changes no more is known -/
theorem Gro.know {b l : Addr} {G H G' H1 : Hp} {o : HO} (g : Gro (some b) G H G' H1) (gl : G' l = none) (hl : H l = none) (h : H1 l = some o) : Gro (some b) G H (L2.upd G' l o) H1 :=
  ⟨g.g.trans (Ex.new gl), Ex.add g.w h, g.k, fun a ha ga => by
    have na : a ≠ l := fun z => ha (by rw [z]; exact hl)
    rw [upd_ne na]
    exact g.n a ha ga⟩
theorem Gro.thenB {b : Addr} {G H G1 H1 G2 H2 : Hp} (x : Gro (some b) G H G1 H1) (y : Gro (some b) G1 H1 G2 H2) (h : H1 b ≠ none) : Gro (some b) G H G2 H2 := x.trans y fun a e _ => by
  cases e
  exact h
end Cw

set_option maxHeartbeats 4000000
/-! what the laws draw: nets -/
namespace Cw
open PySem PySem.Spec PyProof.Rows L2
/-- a drawn channel, one of m processes -/
def ChOk (pool : List Str) (m : Nat) (d : PyData) : Prop := ∃ (z : Str) (g t : Nat) (k : Str), d = .tuple [.str z, .int g, .int t, .str k] ∧ z ∈ pool ∧ g < m ∧ t < m ∧ g ≠ t ∧ k ∈ (["order", "loose", "order lossy", "loose lossy"] : List Str)
def poolC : List Str := ["c", "d", "p", "cc", "abcdef", "x", "to", "q", "wire"]
/-- a drawn process: its name, its states -/
def PrOk (pool : List Str) (d : PyData) : Prop := ∃ (z : Str) (s : Nat), d = .tuple [.str z, .int s] ∧ z ∈ pool ∧ 1 ≤ s ∧ s ≤ 8
/-- a drawn rule -/
def RuOk (ps cs : List PyData) (d : PyData) : Prop := ∃ (p s t : Nat) (a : PyData) (z : Str) (st : Nat), d = .tuple [.int p, .int s, a, .int t] ∧ ps[p]? = some (.tuple [.str z, .int st]) ∧ s < st ∧ t < st ∧
  (a = .tuple [.str "do"] ∨ ∃ (c k : Nat) (y : Str) (g tk : Nat) (kd : Str), cs[c]? = some (.tuple [.str y, .int g, .int tk, .str kd]) ∧ k < 10 ∧ ((a = .tuple [.str "send", .int c, .int k] ∧ g = p) ∨ (a = .tuple [.str "take", .int c, .int k] ∧ tk = p)))
def poolP : List Str := ["p", "q", "c", "ab", "abcdef", "z", "pp"]
def poolPx : List Str := poolP ++ (["r"] : List Str)
def poolCx : List Str := poolC ++ (["e", "f"] : List Str)
theorem name_len {z : Str} (h : isName (.str z) = true) : 1 ≤ z.length ∧ z.length ≤ 6 := by
  obtain ⟨h1, _⟩ := bA h
  obtain ⟨h2, h3⟩ := bA h1
  exact ⟨of_decide_eq_true h2, of_decide_eq_true h3⟩
theorem name_ok {z : Str} (h : isName (.str z) = true) : okD 0 (.str z) = true := by
  obtain ⟨h1, h2⟩ := name_len h
  have h3 := List.all_eq_true.mp (bA h).2
  rw [okD, decide_eq_true (show z.length ≤ 100000 by omega), Bool.and_true]
  show z.cps.all (fun c => decide (c < 0x110000)) = true
  rw [← Array.all_toList, List.all_eq_true]
  intro c hc
  have h4 : c ∈ lettersS.cps.toList := of_decide_eq_true (h3 c hc)
  exact decide_eq_true ((show ∀ c ∈ lettersS.cps.toList, c < 0x110000 by decide +kernel) c h4)
/-- a process, a channel of any names -/
def PrN (d : PyData) : Prop := ∃ (z : Str) (s : Nat), d = .tuple [.str z, .int s] ∧ isName (.str z) = true ∧ 1 ≤ s ∧ s ≤ 8
def ChN (m : Nat) (d : PyData) : Prop := ∃ (z : Str) (g t : Nat) (k : Str), d = .tuple [.str z, .int g, .int t, .str k] ∧ isName (.str z) = true ∧ g < m ∧ t < m ∧ g ≠ t ∧ k ∈ (["order", "loose", "order lossy", "loose lossy"] : List Str)
theorem PrOk.upx {d : PyData} (h : PrOk poolPx d) : PrN d := by
  obtain ⟨z, s, e, hz, h1, h8⟩ := h
  exact ⟨z, s, e, (show ∀ z ∈ poolPx, isName (.str z) = true by decide +kernel) z hz, h1, h8⟩
theorem ChOk.upx {m : Nat} {d : PyData} (h : ChOk poolCx m d) : ChN m d := by
  obtain ⟨z, g, t, k, e, hz, r⟩ := h
  exact ⟨z, g, t, k, e, (show ∀ z ∈ poolCx, isName (.str z) = true by decide +kernel) z hz, r⟩
theorem PrOk.up {d : PyData} (h : PrOk poolP d) : PrN d := by
  obtain ⟨z, s, e, hz, h1, h8⟩ := h
  exact PrOk.upx ⟨z, s, e, List.mem_append_left _ hz, h1, h8⟩
theorem ChOk.up {m : Nat} {d : PyData} (h : ChOk poolC m d) : ChN m d := by
  obtain ⟨z, g, t, k, e, hz, r⟩ := h
  exact ChOk.upx ⟨z, g, t, k, e, List.mem_append_left _ hz, r⟩
/-- a drawn net -/
structure LNet (ps cs rs : List PyData) : Prop where
  p1 : 1 ≤ ps.length
  p5 : ps.length ≤ 5
  pk : ∀ p ∈ ps, PrN p
  pn : (ps.map fun c => strOf (atD c 0)).Nodup
  c8 : cs.length ≤ 8
  ck : ∀ c ∈ cs, ChN ps.length c
  cn : (cs.map fun c => strOf (atD c 0)).Nodup
  r40 : rs.length ≤ 40
  rk : ∀ r ∈ rs, RuOk ps cs r

theorem items_tup (ds : List PyData) : items (.tuple ds) = some ds := rfl
theorem PrN.is {d : PyData} (h : PrN d) : isProcess d = true := by
  obtain ⟨z, s, rfl, hz, h1, h8⟩ := h
  rw [isProcess_eq (.inr rfl), hz, below_of (by omega) (by omega)]
  show (true && (true && decide (0 < (s : Int)))) = true
  rw [decide_eq_true (by omega)] <;> rfl
theorem ChN.is {m : Nat} {d : PyData} (h : ChN m d) : isChan m d = true := by
  obtain ⟨z, g, t, k, rfl, hz, hg, ht, hgt, hk⟩ := h
  rw [isChan_eq (.inr rfl), hz, below_of (by omega) (by omega), below_of (by omega) (by omega), eqv_int, decide_eq_false (by omega),
    (show ∀ k ∈ (["order", "loose", "order lossy", "loose lossy"] : List Str), (kindsD.any fun x => PyData.eqv x (.str k)) = true by decide +kernel) k hk] <;> rfl
theorem RuOk.is {ps cs : List PyData} {d : PyData} (h : RuOk ps cs d) : isRule ps cs d = true := by
  obtain ⟨p, s, t, a, z, st, rfl, hp, hs, ht, ha⟩ := h
  have hpl := (List.getElem?_eq_some_iff.mp hp).1
  have e1 : ps.getD p .none = .tuple [.str z, .int st] := by rw [List.getD_eq_getElem?_getD, hp] <;> rfl
  have e0 : isRule ps cs (.tuple [.int p, .int s, a, .int t]) = if (!isRow 4 (.tuple [.int p, .int s, a, .int t]) || !isBelow ps.length (.int p)) = true then false else match atD (ps.getD p .none) 1 with | .int s' => isBelow s' (.int s) && (isAct cs (.int p) a && isBelow s' (.int t)) | _ => false := rfl
  rw [e0, below_of (by omega) (by omega), if_neg (by rw [show isRow 4 (.tuple [.int p, .int s, a, .int t]) = true from rfl]; decide), e1]
  show (isBelow (st : Int) (.int s) && (isAct cs (.int p) a && isBelow (st : Int) (.int t))) = true
  rw [below_of (by omega) (by omega), below_of (by omega) (by omega), Bool.true_and, Bool.and_true]
  rcases ha with rfl | ⟨c, k, y, g, tk, kd, hc, hk, ha⟩
  · rw [isAct, if_pos (show isRow 1 (.tuple [.str "do"]) = true from rfl)]
    exact str_eqv _
  · have hcl := (List.getElem?_eq_some_iff.mp hc).1
    have e2 : cs.getD c .none = .tuple [.str y, .int g, .int tk, .str kd] := by rw [List.getD_eq_getElem?_getD, hc] <;> rfl
    rcases ha with ⟨rfl, rfl⟩ | ⟨rfl, rfl⟩
    · have e3 : isAct cs (.int g) (.tuple [.str "send", .int c, .int k]) = if (!isBelow cs.length (.int c) || !isBelow 10 (.int k)) = true then false else PyData.eqv (.str "send") (.str "send") && PyData.eqv (.int g) (atD (cs.getD c .none) 1) || PyData.eqv (.str "send") (.str "take") && PyData.eqv (.int g) (atD (cs.getD c .none) 2) := rfl
      rw [e3, below_of (by omega) (by omega), below_of (by omega) (by omega), if_neg (by decide), e2, str_eqv]
      show (true && PyData.eqv (.int g) (.int g) || _) = true
      rw [eqv_int, decide_eq_true rfl] <;> rfl
    · have e3 : isAct cs (.int tk) (.tuple [.str "take", .int c, .int k]) = if (!isBelow cs.length (.int c) || !isBelow 10 (.int k)) = true then false else PyData.eqv (.str "take") (.str "send") && PyData.eqv (.int tk) (atD (cs.getD c .none) 1) || PyData.eqv (.str "take") (.str "take") && PyData.eqv (.int tk) (atD (cs.getD c .none) 2) := rfl
      rw [e3, below_of (by omega) (by omega), below_of (by omega) (by omega), if_neg (by decide), e2, str_eqv]
      show (_ || true && PyData.eqv (.int tk) (.int tk)) = true
      rw [eqv_int, decide_eq_true rfl] <;> simp
theorem LNet.good {ps cs rs : List PyData} (h : LNet ps cs rs) : netBad (.tuple ps) (.tuple cs) (.tuple rs) = none := by
  have a1 : areProcs (.tuple ps) = true := by
    show (decide (1 ≤ ps.length) && decide (ps.length ≤ 5) && (ps.all isProcess && decide ((ps.map fun d => strOf (atD d 0)).Nodup))) = true
    rw [decide_eq_true h.p1, decide_eq_true h.p5, decide_eq_true h.pn, List.all_eq_true.mpr fun d m => (h.pk d m).is] <;> rfl
  have a2 : areChans ps.length (.tuple cs) = true := by
    show (decide (cs.length ≤ 8) && (cs.all (isChan ps.length) && decide ((cs.map fun d => strOf (atD d 0)).Nodup))) = true
    rw [decide_eq_true h.c8, decide_eq_true h.cn, List.all_eq_true.mpr fun d m => (h.ck d m).is] <;> rfl
  have a3 : areRules ps cs (.tuple rs) = true := by
    show (decide (rs.length ≤ 40) && rs.all (isRule ps cs)) = true
    rw [decide_eq_true h.r40, List.all_eq_true.mpr fun d m => (h.rk d m).is] <;> rfl
  unfold netBad
  rw [a1, if_neg (by decide), show itemsD (.tuple ps) = ps from rfl, a2, if_neg (by decide), show itemsD (.tuple cs) = cs from rfl, a3, if_neg (by decide)]
theorem LNet.of {ps cs rs : List PyData} (h : LNet ps cs rs) : netOf (.tuple ps) (.tuple cs) (.tuple rs) = ⟨ps, cs, rs⟩ := by
  have m1 : ∀ (ds : List PyData) (f : PyData → PyData), (∀ d ∈ ds, f d = d) → ds.map f = ds := fun ds f k => by
    induction ds with
    | nil => rfl
    | cons d ds ih =>
      rw [List.map_cons, k d (List.mem_cons_self ..), ih fun e m => k e (List.mem_cons_of_mem _ m)]
  show (⟨ps.map rowT, cs.map rowT, rs.map ruleT⟩ : NetD) = _
  rw [m1 ps rowT fun d m => by
    obtain ⟨z, s, rfl, _⟩ := h.pk d m
    rfl, m1 cs rowT fun d m => by
    obtain ⟨z, g, t, k, rfl, _⟩ := h.ck d m
    rfl, m1 rs ruleT fun d m => by
    obtain ⟨p, s, t, a, z, st, rfl, _, _, _, ha⟩ := h.rk d m
    rcases ha with rfl | ⟨c, k, y, g, tk, kd, _, _, ⟨rfl, _⟩ | ⟨rfl, _⟩⟩ <;> rfl]
theorem okD_tup {n : Nat} {ds : List PyData} (h1 : ds.length ≤ 100000) (h2 : ∀ d ∈ ds, okD n d = true) : okD (n + 1) (.tuple ds) = true := by
  rw [okD, decide_eq_true h1, Bool.true_and, List.all_eq_true]
  exact h2
theorem okD_int (n : Nat) (i : Int) : okD n (.int i) = true := by rw [okD]
theorem okD_none (n : Nat) : okD n .none = true := by rw [okD]
theorem okD_str {n : Nat} {z : Str} (h : okD 0 (.str z) = true) : okD n (.str z) = true := okD_le h (Nat.zero_le n)
theorem PrN.shp {d : PyData} (h : PrN d) : okD 1 d = true := by
  obtain ⟨z, s, rfl, hz, _, _⟩ := h
  refine okD_tup (by simp) fun d hd => ?_
  simp only [List.mem_cons, List.mem_nil_iff, or_false] at hd
  rcases hd with rfl | rfl
  · exact name_ok hz
  · exact okD_int _ _
theorem ChN.shp {m : Nat} {d : PyData} (h : ChN m d) : okD 1 d = true := by
  obtain ⟨z, g, t, k, rfl, hz, _, _, _, hk⟩ := h
  refine okD_tup (by simp) fun d hd => ?_
  simp only [List.mem_cons, List.mem_nil_iff, or_false] at hd
  rcases hd with rfl | rfl | rfl | rfl
  · exact name_ok hz
  · exact okD_int _ _
  · exact okD_int _ _
  · exact (show ∀ z ∈ (["order", "loose", "order lossy", "loose lossy"] : List Str), okD 0 (.str z) = true by decide +kernel) k hk
theorem RuOk.shp {ps cs : List PyData} {d : PyData} (h : RuOk ps cs d) : okD 2 d = true := by
  obtain ⟨p, s, t, a, z, st, rfl, _, _, _, ha⟩ := h
  have sa : okD 1 a = true := by
    rcases ha with rfl | ⟨c, k, y, g, tk, kd, _, _, ⟨rfl, _⟩ | ⟨rfl, _⟩⟩
    · decide +kernel
    · refine okD_tup (by simp) fun d hd => ?_
      simp only [List.mem_cons, List.mem_nil_iff, or_false] at hd
      rcases hd with rfl | rfl | rfl
      · decide +kernel
      · exact okD_int _ _
      · exact okD_int _ _
    · refine okD_tup (by simp) fun d hd => ?_
      simp only [List.mem_cons, List.mem_nil_iff, or_false] at hd
      rcases hd with rfl | rfl | rfl
      · decide +kernel
      · exact okD_int _ _
      · exact okD_int _ _
  refine okD_tup (by simp) fun d hd => ?_
  simp only [List.mem_cons, List.mem_nil_iff, or_false] at hd
  rcases hd with rfl | rfl | rfl | rfl
  · exact okD_int _ _
  · exact okD_int _ _
  · exact sa
  · exact okD_int _ _
theorem LNet.okP {ps cs rs : List PyData} (h : LNet ps cs rs) : okD 2 (.tuple ps) = true := okD_tup (by have := h.p5; omega) fun d m => (h.pk d m).shp
theorem LNet.okC {ps cs rs : List PyData} (h : LNet ps cs rs) : okD 2 (.tuple cs) = true := okD_tup (by have := h.c8; omega) fun d m => (h.ck d m).shp
theorem LNet.okR {ps cs rs : List PyData} (h : LNet ps cs rs) : okD 3 (.tuple rs) = true := okD_tup (by have := h.r40; omega) fun d m => (h.rk d m).shp
theorem LNet.nok {ps cs rs : List PyData} (h : LNet ps cs rs) : NOk ⟨ps, cs, rs⟩ where
  r := fun x m => by
    obtain ⟨p, s, t, a, z, st, rfl, _, _, _, ha⟩ := h.rk x m
    rcases ha with rfl | ⟨c, k, y, g, tk, kd, _, _, ⟨rfl, _⟩ | ⟨rfl, _⟩⟩
    · exact ⟨p, s, _, _, t, rfl⟩
    · exact ⟨p, s, _, _, t, rfl⟩
    · exact ⟨p, s, _, _, t, rfl⟩
  c := fun x m => by
    obtain ⟨z, g, t, k, rfl, _⟩ := h.ck x m
    exact ⟨z, g, t, k, rfl⟩
  lp := h.p5
  lc := h.c8
  lr := h.r40
  sp := okD_le h.okP (by decide)
  sc := okD_le h.okC (by decide)
  sr := okD_le h.okR (by decide)
end Cw

set_option maxHeartbeats 4000000
/-! deeds as the laws read them -/
namespace Cw
open PySem PySem.Spec PyProof.Rows L2
/-- no truth value among the parts -/
def plainD (d : PyData) : Bool := (itemsD d).all fun x => !dBool x
def actsL : List PyData := [.str "act", .str "take", .str "lose"]
def formL : List PyData → Bool
  | x :: y :: r => dStr x && ((actsL.any fun z => PyData.eqv z x) && (decide (((x :: y :: r).length : Int) = 2 + if (!PyData.eqv x (.str "act")) = true then 1 else 0) && ((y :: r).all dInt && isNum ((y :: r).getD r.length .none))))
  | _ => false
def formD (d : PyData) : Bool := match items d with
  | some ds => formL ds
  | none => false
theorem last_at (x y : PyData) (r : List PyData) : atI (x :: y :: r) (((x :: y :: r).length : Int) - 1) = some ((y :: r).getD r.length .none) := by
  have e : ((x :: y :: r).length : Int) - 1 = ((r.length + 1 : Nat) : Int) := by
    simp only [List.length_cons]
    omega
  rw [e]
  have h : r.length < (y :: r).length := by simp
  refine atI_nat (j := r.length + 1) ?_
  show (y :: r)[r.length]? = _
  rw [List.getD_eq_getElem?_getD, List.getElem?_eq_getElem h] <;> rfl
theorem last_mem (y : PyData) (r : List PyData) : (y :: r).getD r.length .none ∈ (y :: r) := by
  have h : r.length < (y :: r).length := by simp
  rw [List.getD_eq_getElem?_getD, List.getElem?_eq_getElem h]
  exact List.getElem_mem h
theorem int_of {d : PyData} (h : dInt d = true) (h2 : dBool d = false) : ∃ i : Int, d = .int i := by
  cases d with
  | int i => exact ⟨i, rfl⟩
  | bool b => cases h2
  | _ => cases h
theorem str_of {d : PyData} (h : dStr d = true) : ∃ z : Str, d = .str z := by
  cases d with
  | str z => exact ⟨z, rfl⟩
  | _ => cases h
section
variable {K : PySem.W.Frag} {G H : Hp} {Q : VK} {v : V} {d : PyData} {x : PyData} {r : List PyData}
theorem six1 {vs : List V} (hl : vs.length = (x :: r).length) : HT.sIx vs.length 0 (some 1) = 1 := by
  rw [show (1 : Int) = ((1 : Nat) : Int) from rfl, HT.sIx_nat, hl, List.length_cons]
  omega
theorem cut1 {vs : List V} (hl : vs.length = (x :: r).length) : cutV vs (some 1) none = vs.drop 1 := by
  unfold cutV
  rw [six1 hl, HT.sIx_none]
  exact List.take_of_length_le (by rw [List.length_drop]; exact Nat.le_refl _)
/-- row[1:] -/
theorem q_sl1L (hv : Rp K G v (.list (x :: r))) (e : Ex G H) (q : ∀ G2 H2 p, Gro none G H G2 H2 → Rp K G2 (.ref p) (.list r) → Q (.ref p) H2) : rSlAny K v (some 1) none H Q := by
  obtain ⟨l, vs, rfl, hS, hr⟩ := rp_lst hv
  refine .inl ⟨l, vs, rfl, .inl (.inl (e _ _ hS)), fun p hp => ?_⟩
  rw [cut1 hr.len]
  exact q (L2.upd G p (.lst (vs.drop 1))) _ p (Gro.new e hp) (.lst upd_same ((hr.drop 1).mono (Ex.new (e.back hp))))
theorem q_sl1T (hv : Rp K G v (.tuple (x :: r))) (e : Ex G H) (q : ∀ G2 H2 p, Gro none G H G2 H2 → Rp K G2 (.ref p) (.tuple r) → Q (.ref p) H2) : rSlAny K v (some 1) none H Q := by
  obtain ⟨l, vs, rfl, hS, hr⟩ := rp_tup hv
  refine .inr (.inl ⟨l, vs, rfl, e.st hS, fun z => ?_, fun _ p hp => ?_⟩)
  · rw [six1 hr.len] at z
    exact absurd z.1 (by decide)
  · rw [cut1 hr.len]
    exact q (L2.upd G p (.tup (vs.drop 1))) _ p (Gro.new e hp) (.tup (.inl (.inl upd_same)) ((hr.drop 1).mono (Ex.new (e.back hp))))
end
/-- a test of data without truth values -/
def sp1p (K : PySem.W.Frag) (t : PyData → Bool) : Sp := fun vs H Q _ => ∃ (G : Hp) (v : V) (d : PyData), vs = [v] ∧ Ex G H ∧ Rp K G v d ∧ Shp d ∧ plainD d = true ∧ ∀ H', Ex H H' → Q (.bl (t d)) H'
theorem below_num {n : Int} {d : PyData} (h : isBelow n d = true) : dInt d = true ∧ isNum d = true := by
  obtain ⟨i, rfl, i0, _⟩ := below_int h
  exact ⟨rfl, decide_eq_true i0⟩
theorem num_int {d : PyData} (h : isNum d = true) : dInt d = true := by
  cases d with
  | int i => rfl
  | _ => cases h
theorem deed_form {N : NetD} {d : PyData} (h : isDeedD N d = true) : formD d = true := by
  unfold isDeedD at h
  by_cases r2 : isRow 2 d = true
  · rw [if_pos r2] at h
    obtain ⟨x0, x1, hs⟩ := row2 r2
    rw [show atD d 0 = x0 from Seq.at hs 0, show atD d 1 = x1 from Seq.at hs 1] at h
    obtain ⟨h1, h2⟩ := bA h
    obtain rfl := eqv_str h1
    have hb : isBelow N.r.length x1 = true := by
      cases y : isBelow N.r.length x1 with
      | true => rfl
      | false =>
        rw [wordD, y, if_neg Bool.false_ne_true] at h2
        simp [eqv_none] at h2
    obtain ⟨b1, b2⟩ := below_num hb
    rw [formD, Seq.items hs]
    show (dStr (.str "act") && ((actsL.any fun z => PyData.eqv z (.str "act")) && (decide ((([.str "act", x1] : List PyData).length : Int) = 2 + if (!PyData.eqv (.str "act") (.str "act")) = true then 1 else 0) && (([x1] : List PyData).all dInt && isNum x1)))) = true
    rw [b2, show ([x1] : List PyData).all dInt = true by simp [b1], str_eqv, show (actsL.any fun z => PyData.eqv z (.str "act")) = true by decide +kernel]
    show (true && (true && (decide ((2 : Int) = 2 + if (!true) = true then 1 else 0) && (true && true)))) = true
    decide
  · rw [if_neg r2] at h
    by_cases z : (!isRow 3 d || !isNum (atD d 2)) = true
    · rw [if_pos z] at h
      cases h
    · rw [if_neg z] at h
      have r3 : isRow 3 d = true := by
        cases y : isRow 3 d with
        | true => rfl
        | false => simp [y] at z
      obtain ⟨x0, x1, x2, hs⟩ := row3 r3
      have n2 : isNum x2 = true := by
        rw [r3, show atD d 2 = x2 from Seq.at hs 2] at z
        simpa using z
      rw [show atD d 0 = x0 from Seq.at hs 0, show atD d 1 = x1 from Seq.at hs 1] at h
      have fin : ∀ w : Str, w = "take" ∨ w = "lose" → x0 = .str w → dInt x1 = true → formD d = true := fun w hw e b1 => by
        subst e
        rw [formD, Seq.items hs]
        show (dStr (.str w) && ((actsL.any fun z => PyData.eqv z (.str w)) && (decide ((([.str w, x1, x2] : List PyData).length : Int) = 2 + if (!PyData.eqv (.str w) (.str "act")) = true then 1 else 0) && (([x1, x2] : List PyData).all dInt && isNum x2)))) = true
        rw [n2, show ([x1, x2] : List PyData).all dInt = true by simp [b1, num_int n2]]
        have hA : (actsL.any fun z => PyData.eqv z (.str w)) = true := by rcases hw with rfl | rfl <;> decide +kernel
        have hB : PyData.eqv (.str w) (.str "act") = false := by rcases hw with rfl | rfl <;> decide +kernel
        rw [hA, hB]
        show (true && (true && (decide ((3 : Int) = 2 + if (!false) = true then 1 else 0) && (true && true)))) = true
        decide
      by_cases t : PyData.eqv x0 (.str "take") = true
      · rw [if_pos t] at h
        exact fin _ (.inl rfl) (eqv_str t) (below_num (word_below (eqv_str h))).1
      · rw [if_neg t] at h
        obtain ⟨h1, h2⟩ := bA h
        exact fin _ (.inr rfl) (eqv_str h1) (below_num (bA h2).1).1
/-- what the form tells -/
theorem form_is {d : PyData} (h : formD d = true) (hp : plainD d = true) : (∃ i : Int, 0 ≤ i ∧ Seq d [.str "act", .int i]) ∨ ∃ (w : Str) (i k : Int), (w = "take" ∨ w = "lose") ∧ 0 ≤ k ∧ Seq d [.str w, .int i, .int k] := by
  unfold formD at h
  cases e : items d with
  | none =>
    rw [e] at h
    cases h
  | some ds =>
    rw [e] at h
    have hs : Seq d ds := by
      cases d with
      | list xs => exact .inl (by cases e; rfl)
      | tuple xs => exact .inr (by cases e; rfl)
      | _ => cases e
    have pl : ∀ z ∈ ds, dBool z = false := fun z hz => by
      unfold plainD at hp
      rw [Seq.it hs] at hp
      simpa using List.all_eq_true.mp hp z hz
    match ds, h, hs, pl with
    | [], h, _, _ => cases h
    | [_], h, _, _ => cases h
    | x :: y :: r, h, hs, pl =>
      obtain ⟨h1, h⟩ := bA (show (dStr x && ((actsL.any fun z => PyData.eqv z x) && (decide (((x :: y :: r).length : Int) = 2 + if (!PyData.eqv x (.str "act")) = true then 1 else 0) && ((y :: r).all dInt && isNum ((y :: r).getD r.length .none))))) = true from h)
      obtain ⟨h2, h⟩ := bA h
      obtain ⟨h3, h⟩ := bA h
      obtain ⟨h4, h5⟩ := bA h
      obtain ⟨w, rfl⟩ := str_of h1
      have hw : w = "act" ∨ w = "take" ∨ w = "lose" := by
        simp only [actsL, List.any_cons, List.any_nil, Bool.or_false, Bool.or_eq_true, eqv_strs, beq_iff_eq] at h2
        rcases h2 with h | h | h
        · exact .inl h.symm
        · exact .inr (.inl h.symm)
        · exact .inr (.inr h.symm)
      have hl := of_decide_eq_true h3
      have ai := List.all_eq_true.mp h4
      obtain ⟨i, rfl⟩ := int_of (ai y (by simp)) (pl y (by simp))
      rcases hw with rfl | hw
      · rw [str_eqv, if_neg (by decide)] at hl
        match r, hl, h5, hs with
        | [], _, h5, hs => exact .inl ⟨i, of_decide_eq_true h5, hs⟩
        | _ :: _, hl, _, _ => simp at hl; omega
      · have ne : PyData.eqv (.str w) (.str "act") = false := by rcases hw with rfl | rfl <;> decide +kernel
        rw [ne, if_pos (by decide)] at hl
        match r, hl, h5, hs, ai, pl with
        | [], hl, _, _, _, _ => simp at hl
        | [t], _, h5, hs, ai, pl =>
          obtain ⟨k, rfl⟩ := int_of (ai t (by simp)) (pl t (by simp))
          exact .inr ⟨w, i, k, hw, of_decide_eq_true h5, hs⟩
        | _ :: _ :: _, hl, _, _, _, _ => simp at hl; omega
def dueD (N : NetD) (d : PyData) : PyData := if isDeedD N d then .tuple [.str "told", ownerD N d] else .tuple [.str "step", .int 0]
theorem LNet.word {ps cs rs : List PyData} (h : LNet ps cs rs) {k : Nat} (hk : k < rs.length) : ∃ (p s t : Int) (wd : Str) (as : List PyData), rs[k] = .tuple [.int p, .int s, .tuple (.str wd :: as), .int t] ∧ (wd = "do" ∨ wd = "send" ∨ wd = "take") := by
  obtain ⟨p, s, t, a, z, st, e, _, _, _, ha⟩ := h.rk _ (List.getElem_mem hk)
  rcases ha with rfl | ⟨c, k, y, g, tk, kd, _, _, ⟨rfl, _⟩ | ⟨rfl, _⟩⟩
  · exact ⟨p, s, t, _, _, e, .inl rfl⟩
  · exact ⟨p, s, t, _, _, e, .inr (.inl rfl)⟩
  · exact ⟨p, s, t, _, _, e, .inr (.inr rfl)⟩
theorem word_at {ps cs rs : List PyData} {k : Nat} (hk : k < rs.length) {p s t : PyData} {wd : Str} {as : List PyData} (e : rs[k] = .tuple [p, s, .tuple (.str wd :: as), t]) : wordD ⟨ps, cs, rs⟩ (.int k) = .str wd := by
  rw [wordD, below_of (by omega) (by show (k : Int) < rs.length; omega), if_pos rfl]
  show atD (atD (rs.getD k .none) 2) 0 = _
  rw [List.getD_eq_getElem?_getD, List.getElem?_eq_getElem hk]
  show atD (atD rs[k] 2) 0 = _
  rw [e] <;> rfl
theorem word_out {ps cs rs : List PyData} {i : Int} (h : i < 0 ∨ (rs.length : Int) ≤ i) : wordD ⟨ps, cs, rs⟩ (.int i) = .none := by
  have e : isBelow (rs.length : Nat) (.int i) = false := by
    show (decide (0 ≤ i) && decide (i < (rs.length : Int))) = false
    rcases h with h | h
    · rw [decide_eq_false (by omega)] <;> rfl
    · rw [decide_eq_false (show ¬ i < (rs.length : Int) by omega), Bool.and_false]
  rw [wordD, if_neg (by show ¬ isBelow (rs.length : Nat) (.int i) = true; rw [e]; decide)]
/-- an act, in numbers -/
theorem act_deed {N : NetD} {d : PyData} {i : Int} (hs : Seq d [.str "act", .int i]) : isDeedD N d = [PyData.str "do", .str "send"].any fun k => PyData.eqv k (wordD N (.int i)) := by
  have r2 : isRow 2 d = true := by rw [Seq.isRow hs] <;> rfl
  rw [isDeedD, r2, if_pos rfl, show atD d 0 = .str "act" from Seq.at hs 0, show atD d 1 = .int i from Seq.at hs 1, str_eqv, Bool.true_and]
theorem three_deed {N : NetD} {d : PyData} {w : Str} {i k : Int} (hk : 0 ≤ k) (hs : Seq d [.str w, .int i, .int k]) : isDeedD N d = if PyData.eqv (.str w) (.str "take") then PyData.eqv (wordD N (.int i)) (.str "take") else PyData.eqv (.str w) (.str "lose") && (isBelow N.c.length (.int i) && [PyData.str "order lossy", .str "loose lossy"].any fun z => PyData.eqv z (atD (chanAt N (natD (.int i))) 3)) := by
  have r2 : isRow 2 d = false := by rw [Seq.isRow hs] <;> rfl
  have r3 : isRow 3 d = true := by rw [Seq.isRow hs] <;> rfl
  rw [isDeedD, r2, if_neg (by decide), r3, show atD d 0 = .str w from Seq.at hs 0, show atD d 1 = .int i from Seq.at hs 1, show atD d 2 = .int k from Seq.at hs 2, show isNum (.int k) = true from decide_eq_true hk, if_neg (by decide)]
theorem due_is {N : NetD} (ok : NOk N) (d : PyData) : (∃ i : Int, dueD N d = .tuple [.str "told", .int i] ∧ isDeedD N d = true ∧ ownerD N d = .int i) ∨ dueD N d = .tuple [.str "step", .int 0] := by
  unfold dueD
  by_cases h : isDeedD N d = true
  · rw [if_pos h]
    rcases deed_is h with ⟨x0, k, r, hk, hs, hl⟩ | ⟨x0, k, r, hk, hs, hl⟩
    · obtain ⟨p, st, wd, as, t, er⟩ := ok.r _ (List.getElem_mem hk)
      have ev : ownerD N d = .int p := by
        rw [ownerD, show atD d 0 = x0 from Seq.at hs 0, show atD d 1 = .int k from Seq.at hs 1, hl, if_neg Bool.false_ne_true]
        show atD (N.r.getD k .none) 0 = _
        rw [List.getD_eq_getElem?_getD, List.getElem?_eq_getElem hk]
        show atD N.r[k] 0 = _
        rw [er] <;> rfl
      exact .inl ⟨p, by rw [ev], h, ev⟩
    · obtain ⟨z, gv, tk, kd, ec⟩ := ok.c _ (List.getElem_mem hk)
      have ev : ownerD N d = .int tk := by
        rw [ownerD, show atD d 0 = x0 from Seq.at hs 0, show atD d 1 = .int k from Seq.at hs 1, hl, if_pos rfl]
        show atD (N.c.getD k .none) 2 = _
        rw [List.getD_eq_getElem?_getD, List.getElem?_eq_getElem hk]
        show atD N.c[k] 2 = _
        rw [ec] <;> rfl
      exact .inl ⟨tk, by rw [ev], h, ev⟩
  · exact .inr (by rw [if_neg h])
theorem due_list (N : NetD) (ds : List PyData) : dueD N (.list ds) = dueD N (.tuple ds) := rfl
theorem shp_list {ds : List PyData} (h : Shp (.tuple ds)) : Shp (.list ds) := by
  unfold Shp
  have h1 := shp_len (.inr rfl) h
  unfold Shp at h
  rw [okD] at h
  have h2 := List.all_eq_true.mp (bA h).2
  rw [okD, decide_eq_true h1, Bool.true_and, List.all_eq_true]
  exact h2
end Cw

set_option maxHeartbeats 4000000
/-! a box of draws beside what is known; many new objects at once -/
namespace Cw
open PySem PySem.Spec PyProof.Rows L2
/-- the box stands, all else has grown -/
structure St (b : Addr) (G H G' H' : Hp) (us : List V) : Prop where
  gr : Gro (some b) G H G' H'
  gb : G' b = none
  hb : H' b = some (.lst us)
section
variable {b p : Addr} {G H G1 H1 G2 H2 : Hp} {us us2 : List V} {o : HO}
theorem St.ne (s : St b G H G1 H1 us) (hp : H1 p = none) : b ≠ p := ne_of_none s.hb hp
theorem St.nn (s : St b G H G1 H1 us) : H1 b ≠ none := by rw [s.hb]; exact fun z => nomatch z
theorem St.new (s : St b G H G1 H1 us) (hp : H1 p = none) : St b G H (L2.upd G1 p o) (L2.upd H1 p o) us :=
  ⟨s.gr.newb hp (s.gr.fresh hp (Ne.symm (s.ne hp))), by rw [upd_ne (s.ne hp)]; exact s.gb, upd_old s.hb hp⟩
theorem St.start (eG : Ex G H) (gb : G b = none) (hb : H b = some (.lst us)) : St b G H G H us := ⟨Gro.refl eG, gb, hb⟩
theorem St.put (s : St b G H G1 H1 us) : St b G H G1 (L2.upd H1 b (.lst us2)) us2 := ⟨s.gr.put s.gb, s.gb, upd_same⟩
theorem St.up (s : St b G H G1 H1 us) (e : Ex H1 H2) : St b G H G1 H2 us := ⟨s.gr.thenB (Gro.up s.gr.w e).mono s.nn, s.gb, e _ _ s.hb⟩
theorem St.gro (s : St b G H G1 H1 us) (g : Gro none G1 H1 G2 H2) : St b G H G2 H2 us := ⟨s.gr.then_ g s.nn, g.n b s.nn s.gb, g.ex _ _ s.hb⟩
theorem St.grob (s : St b G H G1 H1 us) (g : Gro (some b) G1 H1 G2 H2) (gb : G2 b = none) (hb : H2 b = some (.lst us2)) : St b G H G2 H2 us2 := ⟨s.gr.thenB g s.nn, gb, hb⟩
theorem St.w (s : St b G H G1 H1 us) : Ex G1 H1 := s.gr.w
theorem St.g (s : St b G H G1 H1 us) : Ex G G1 := s.gr.g
/-- objects laid, the last one first -/
inductive Lay (H : Hp) : List (Addr × HO) → Hp → Prop
  | nil : Lay H [] H
  | snoc {l : List (Addr × HO)} {H1 : Hp} {p : Addr} {o : HO} : Lay H l H1 → H1 p = none → Lay H ((p, o) :: l) (L2.upd H1 p o)
theorem Lay.ex {l : List (Addr × HO)} (y : Lay H l H1) : Ex H H1 := by
  induction y with
  | nil => exact Ex.refl _
  | snoc y hp ih => exact ih.trans (Ex.new hp)
theorem St.know (s : St b G H G1 H1 us) {l : List (Addr × HO)} (y : Lay H1 l H2) : ∃ G2, St b G H G2 H2 us ∧ Ex G1 G2 ∧ ∀ p o, (p, o) ∈ l → G2 p = some o := by
  induction y with
  | nil => exact ⟨G1, s, Ex.refl _, by simp⟩
  | snoc y hp ih =>
    obtain ⟨G2, s2, e2, k2⟩ := ih
    refine ⟨L2.upd G2 _ _, s2.new hp, e2.trans (Ex.new (s2.w.back hp)), fun p o h => ?_⟩
    rcases List.mem_cons.mp h with h | h
    · cases h
      exact upd_same
    · exact upd_old (k2 p o h) (s2.w.back hp)
theorem Lay.know {l : List (Addr × HO)} (y : Lay H1 l H2) (e : Ex G1 H1) : ∃ G2, Gro none G1 H1 G2 H2 ∧ ∀ p o, (p, o) ∈ l → G2 p = some o := by
  induction y with
  | nil => exact ⟨G1, Gro.refl e, by simp⟩
  | snoc y hp ih =>
    obtain ⟨G2, g2, k2⟩ := ih
    refine ⟨L2.upd G2 _ _, g2.trans0 (Gro.new g2.w hp), fun p o h => ?_⟩
    rcases List.mem_cons.mp h with h | h
    · cases h
      exact upd_same
    · exact upd_old (k2 p o h) (g2.w.back hp)
/-- .. up to where the last one is laid -/
theorem St.know2 (s : St b G H G1 H1 us) {l : List (Addr × HO)} (hp : H2 p = none) (y : Lay H1 l H2) (o : HO) : ∃ G2, St b G H G2 (L2.upd H2 p o) us ∧ Ex G1 G2 ∧ (∀ a u, (a, u) ∈ l → G2 a = some u) ∧ G2 p = some o := by
  obtain ⟨G2, s2, e2, k2⟩ := s.know y
  exact ⟨L2.upd G2 p o, s2.new hp, e2.trans (Ex.new (s2.w.back hp)), fun a u h => upd_old (k2 a u h) (s2.w.back hp), upd_same⟩
theorem Lay.know2 {l : List (Addr × HO)} (e : Ex G1 H1) (hp : H2 p = none) (y : Lay H1 l H2) (o : HO) : ∃ G2, Gro none G1 H1 G2 (L2.upd H2 p o) ∧ (∀ a u, (a, u) ∈ l → G2 a = some u) ∧ G2 p = some o := by
  obtain ⟨G2, s2, k2⟩ := y.know e
  exact ⟨L2.upd G2 p o, s2.trans0 (Gro.new s2.w hp), fun a u h => upd_old (k2 a u h) (s2.w.back hp), upd_same⟩
theorem know_at {P : Hp → Prop} {l : List (Addr × HO)} (y : Lay H1 l H2) (s : St b G H G1 H1 us) (q : ∀ G2, St b G H G2 H2 us → Ex G1 G2 → (∀ p o, (p, o) ∈ l → G2 p = some o) → P H2) : P H2 := by
  obtain ⟨G2, s2, e2, k2⟩ := s.know y
  exact q G2 s2 e2 k2
theorem know_n {P : Hp → Prop} {l : List (Addr × HO)} (y : Lay H1 l H2) (e : Ex G1 H1) (q : ∀ G2, Gro none G1 H1 G2 H2 → Ex G1 G2 → (∀ p o, (p, o) ∈ l → G2 p = some o) → P H2) : P H2 := by
  obtain ⟨G2, g2, k2⟩ := y.know e
  exact q G2 g2 g2.g k2
end
section
variable {K : PySem.W.Frag} {G H : Hp} {Q : VK} {p l : Addr} {xs : List V} {ds : List PyData} {d : PyData} {v : V} {vs : List V} {L : List (Addr × HO)}
theorem Rp.tupK (k : ∀ p o, (p, o) ∈ L → G p = some o) (m : (p, HO.tup xs) ∈ L) (r : Rps K G xs ds) : Rp K G (.ref p) (.tuple ds) := .tup (.inl (.inl (k _ _ m))) r
theorem Rp.lstK (k : ∀ p o, (p, o) ∈ L → G p = some o) (m : (p, HO.lst xs) ∈ L) (r : Rps K G xs ds) : Rp K G (.ref p) (.list ds) := .lst (k _ _ m) r
theorem cut_from {k : Nat} (h : k ≤ vs.length) : cutV vs (some (k : Int)) none = vs.drop k := by
  unfold cutV
  rw [HT.sIx_nat, HT.sIx_none, Nat.min_eq_left h]
  exact List.take_of_length_le (by rw [List.length_drop]; exact Nat.le_refl _)
theorem cut_to {k : Nat} : cutV vs none (some (k : Int)) = vs.take k := by
  unfold cutV
  rw [HT.sIx_nat, HT.sIx_none, Nat.sub_zero]
  show List.take (min k vs.length) vs = _
  by_cases h : k ≤ vs.length
  · rw [Nat.min_eq_left h]
  · rw [Nat.min_eq_right (by omega), List.take_of_length_le (Nat.le_refl _), List.take_of_length_le (by omega)]
theorem q_slL {lo hi : Option Int} (h : H l = some (.lst vs)) (q : ∀ p, H p = none → Q (.ref p) (L2.upd H p (.lst (cutV vs lo hi)))) : rSlAny K (.ref l) lo hi H Q := .inl ⟨l, vs, rfl, .inl (.inl h), q⟩
theorem flat_rep (v : V) : ∀ m : Nat, (List.replicate m [v]).flatten = List.replicate m v
  | 0 => rfl
  | m + 1 => by rw [List.replicate_succ, List.flatten_cons, flat_rep v m] <;> rfl
/-- [v] * m -/
theorem q_repL {m : Nat} (h : H l = some (.lst [v])) (hm : m ≤ 1000) (q : ∀ p, H p = none → Q (.ref p) (L2.upd H p (.lst (List.replicate m v)))) : rMulB K (.ref l) (.int (m : Nat)) H Q := by
  refine .inl (.inr (.inl ⟨l, m, [v], rfl, rfl, h, by omega, by omega, ?_, fun p hp => ?_⟩))
  · rw [Int.toNat_natCast, List.length_singleton, Nat.one_mul]
    exact Nat.le_trans hm (by decide)
  · rw [Int.toNat_natCast, flat_rep]
    exact q p hp
theorem q_tupL (h : H l = some (.lst vs)) (q : ∀ p, H p = none → Q (.ref p) (L2.upd H p (.tup vs))) : rTupA K [.ref l] H Q := ⟨l, vs, rfl, .inl ⟨.inl (.inl h), q⟩⟩
/-- a thing that a law may hand in as a deed -/
def Fit (d : PyData) : Prop := okD 3 d = true ∧ plainD d = true
theorem fitB (h : (okD 3 d && plainD d) = true) : Fit d := bA h
theorem Fit.shp (h : Fit d) : Shp d := okD_le h.1 (by decide)
theorem fit_act (x : Str) (hx : okD 0 (.str x) = true) (r : Int) : Fit (.tuple [.str x, .int r]) := by
  refine ⟨okD_tup (by simp) fun d hd => ?_, rfl⟩
  simp only [List.mem_cons, List.mem_nil_iff, or_false] at hd
  rcases hd with rfl | rfl
  · exact okD_str hx
  · exact okD_int _ _
theorem fit_three (x : Str) (hx : okD 0 (.str x) = true) (r k : Int) : Fit (.tuple [.str x, .int r, .int k]) := by
  refine ⟨okD_tup (by simp) fun d hd => ?_, rfl⟩
  simp only [List.mem_cons, List.mem_nil_iff, or_false] at hd
  rcases hd with rfl | rfl | rfl
  · exact okD_str hx
  · exact okD_int _ _
  · exact okD_int _ _
theorem all_fit (h : (ds.all fun d => okD 3 d && plainD d) = true) : ∀ d ∈ ds, Fit d := fun d m => fitB (List.all_eq_true.mp h d m)
theorem fit_app {es : List PyData} (h1 : ∀ d ∈ ds, Fit d) (h2 : ∀ d ∈ es, Fit d) : ∀ d ∈ ds ++ es, Fit d := fun d m => (List.mem_append.mp m).elim (h1 d) (h2 d)
theorem fit_take (h : ∀ d ∈ ds, Fit d) (n : Nat) : ∀ d ∈ ds.take n, Fit d := fun d m => h d (List.mem_of_mem_take m)
theorem fit_drop (h : ∀ d ∈ ds, Fit d) (n : Nat) : ∀ d ∈ ds.drop n, Fit d := fun d m => h d (List.mem_of_mem_drop m)
end
/-- len of a list of new things -/
theorem q_lenKn {K : PySem.W.Frag} {Q : VK} {b a : Addr} {G H G1 H1 H2 : Hp} {us xs : List V} {ds : List PyData} {l : List (Addr × HO)} (y : Lay H1 l H2) (m : (a, HO.lst xs) ∈ l) (s : St b G H G1 H1 us) (r : ∀ G2 : Hp, (∀ p o, (p, o) ∈ l → G2 p = some o) → Rps K G2 xs ds) (f : (ds.all fun d => okD 3 d && plainD d) = true)
    (q : ∀ (G2 : Hp) (xo : List V) (eo : List PyData), eo.length = ds.length → St b G H G2 H2 us → Ex G1 G2 → G2 a = some (.lst xo) → Rps K G2 xo eo → (∀ d ∈ eo, Fit d) → Q (.int (ds.length : Nat)) H2) : rLenA K [.ref a] H2 Q := by
  obtain ⟨G2, s2, e2, k2⟩ := s.know y
  have ha := k2 _ _ m
  refine q_lenC (.inl (.inl (s2.w _ _ ha))) ?_
  have hr := r G2 k2
  rw [hr.len]
  exact q G2 xs ds rfl s2 e2 ha hr (all_fit f)
theorem q_netP {K : PySem.W.Frag} {C CB : Addr} {G H : Hp} {P : Addr → Hp → Prop} {E : XK} {v1 v2 v3 : V} {d1 d2 d3 : PyData} (e : Ex G H) (h1 : Rp K G v1 d1) (s1 : Shp d1) (h2 : Rp K G v2 d2) (s2 : Shp d2) (h3 : Rp K G v3 d3) (s3 : Shp d3) (good : netBad d1 d2 d3 = none)
    (q : ∀ G' H' x, Gro none G H G' H' → NetAt K C G' x (netOf d1 d2 d3) → P x H') :
    ∀ x dx, H x = none → H dx = none → dx ≠ x → sp_net K C CB [.ref x, v1, v2, v3] (upd (upd H dx (.own x)) x (.ins C dx [])) (fun v H2 => v = .non ∧ P x H2) E :=
  q_net (Q := fun v H => match v with | .ref x => P x H | _ => False) e h1 s1 h2 s2 h3 s3 good q
theorem startD_sm (N : NetD) (h1 : N.p.length ≤ 1000) (h2 : N.c.length ≤ 1000) : Sm 3 (startD N) := by
  have a : ∀ (m : Nat) (x : PyData) (n : Nat), m ≤ 1000 → Sm n x → Sm (n + 1) (.tuple (List.replicate m x)) := fun m x n hm hx => ⟨by rw [List.length_replicate]; omega, fun d hd => by rw [(List.mem_replicate.mp hd).2]; exact hx⟩
  refine ⟨by simp, fun d hd => ?_⟩
  simp only [List.mem_cons, List.mem_nil_iff, or_false] at hd
  rcases hd with rfl | rfl | rfl
  · exact a _ _ 1 h1 True.intro
  · exact a _ _ 1 h2 True.intro
  · exact a _ _ 1 h2 ⟨by simp, by simp⟩
end Cw

set_option maxHeartbeats 4000000
/-! worlds of a net, their deeds: a mirror in numbers -/
namespace Cw
open PySem PySem.Spec PyProof.Rows L2
inductive Act where
  | do_ | send (c k : Nat) | take (c k : Nat)
structure Rul where
  p : Nat
  s : Nat
  a : Act
  t : Nat
structure Chn where
  z : Str
  g : Nat
  t : Nat
  k : Str
structure MN where
  ps : List PyData
  C : List Chn
  R : List Rul
def nD (n : Nat) : PyData := .int (n : Int)
def Act.d : Act → PyData
  | .do_ => .tuple [.str "do"]
  | .send c k => .tuple [.str "send", nD c, nD k]
  | .take c k => .tuple [.str "take", nD c, nD k]
def Rul.d (r : Rul) : PyData := .tuple [nD r.p, nD r.s, r.a.d, nD r.t]
def Chn.d (c : Chn) : PyData := .tuple [.str c.z, nD c.g, nD c.t, .str c.k]
def MN.N (M : MN) : NetD := ⟨M.ps, M.C.map Chn.d, M.R.map Rul.d⟩
def kindsL : List Str := ["order", "loose", "order lossy", "loose lossy"]
structure MNOk (M : MN) : Prop where
  lp : M.ps.length ≤ 5
  lc : M.C.length ≤ 8
  lr : M.R.length ≤ 40
  ch : ∀ c ∈ M.C, c.k ∈ kindsL
  ru : ∀ r ∈ M.R, r.p < M.ps.length ∧ (∀ c k, r.a = .send c k ∨ r.a = .take c k → c < M.C.length)
inductive Deed where
  | act (r : Nat) | take (r k : Nat) | lose (c k : Nat)
deriving DecidableEq
def Deed.ps : Deed → List PyData
  | .act r => [.str "act", nD r]
  | .take r k => [.str "take", nD r, nD k]
  | .lose c k => [.str "lose", nD c, nD k]
def Deed.d (D : Deed) : PyData := .tuple D.ps
structure Wd where
  s : List Nat
  n : List Nat
  p : List (List (Nat × Nat))
/-- a row, a tuple or a list -/
def sqD (b : Bool) (ds : List PyData) : PyData := if b then .tuple ds else .list ds
def msgD (b : Bool) (m : Nat × Nat) : PyData := sqD b [nD m.1, nD m.2]
def rowMD (b : Bool) (r : List (Nat × Nat)) : PyData := sqD b (r.map (msgD b))
def Wd.d (W : Wd) (b : Bool) : PyData := sqD b [sqD b (W.s.map nD), sqD b (W.n.map nD), sqD b (W.p.map (rowMD b))]
theorem sqD_seq (b : Bool) (ds : List PyData) : Seq (sqD b ds) ds := by
  cases b
  · exact .inl rfl
  · exact .inr rfl
structure WdOk (M : MN) (W : Wd) (B : Nat) : Prop where
  ls : W.s.length = M.ps.length
  ln : W.n.length = M.C.length
  lp : W.p.length = M.C.length
  b : ∀ r ∈ W.p, r.length ≤ B
def ordd (k : Str) : Bool := [PyData.str "order", .str "order lossy"].any fun z => PyData.eqv z (.str k)
def lossd (k : Str) : Bool := [PyData.str "order lossy", .str "loose lossy"].any fun z => PyData.eqv z (.str k)
def kindM (M : MN) (c : Nat) : Str := match M.C[c]? with
  | some h => h.k
  | none => Str.empty
def rowM (W : Wd) (c : Nat) : List (Nat × Nat) := W.p.getD c []
def hand (M : MN) (W : Wd) (c : Nat) : List (Nat × Nat) := if ordd (kindM M c) then (rowM W c).take 1 else rowM W c
def lossesM (M : MN) (W : Wd) (c : Nat) : List Deed := if lossd (kindM M c) then (hand M W c).map fun m => .lose c m.1 else []
def takesM (M : MN) (W : Wd) (r c k : Nat) : List Deed := ((hand M W c).filter fun m => decide (m.2 = k)).map fun m => .take r m.1
def ruleM (M : MN) (W : Wd) (r : Nat) : List Deed := match M.R[r]? with
  | none => []
  | some R => if W.s[R.p]? = some R.s then match R.a with
      | .take c k => takesM M W r c k
      | _ => [.act r]
    else []
def possM (M : MN) (W : Wd) : List Deed := ((List.range M.R.length).map (ruleM M W)).flatten ++ ((List.range M.C.length).map (lossesM M W)).flatten
def gone (W : Wd) (c k : Nat) : List (List (Nat × Nat)) := W.p.set c ((rowM W c).filter fun m => decide (m.1 ≠ k))
def stepM (M : MN) (W : Wd) : Deed → Wd
  | .lose c k => { W with p := gone W c k }
  | .act r => match M.R[r]? with
    | none => W
    | some R => match R.a with
      | .send c k => ⟨W.s.set R.p R.t, W.n.set c (W.n.getD c 0 + 1), W.p.set c (rowM W c ++ [(W.n.getD c 0, k)])⟩
      | _ => { W with s := W.s.set R.p R.t }
  | .take r m => match M.R[r]? with
    | none => W
    | some R => match R.a with
      | .take c _ => ⟨W.s.set R.p R.t, W.n, gone W c m⟩
      | _ => { W with s := W.s.set R.p R.t }
def startM (M : MN) : Wd := ⟨List.replicate M.ps.length 0, List.replicate M.C.length 0, List.replicate M.C.length []⟩
theorem hand_len (M : MN) (W : Wd) (c : Nat) : (hand M W c).length ≤ (rowM W c).length := by
  unfold hand
  split
  · exact List.length_take_le' _ _
  · exact Nat.le_refl _
theorem WdOk.row {M : MN} {W : Wd} {B : Nat} (h : WdOk M W B) (c : Nat) : (rowM W c).length ≤ B := by
  unfold rowM
  rw [List.getD_eq_getElem?_getD]
  cases e : W.p[c]? with
  | none => exact Nat.zero_le _
  | some r => exact h.b r (List.mem_of_getElem? e)
theorem WdOk.rowAt {M : MN} {W : Wd} {B c : Nat} (h : WdOk M W B) (hc : c < M.C.length) : W.p[c]? = some (rowM W c) := by
  have hl : c < W.p.length := by rw [h.lp]; exact hc
  unfold rowM
  rw [List.getD_eq_getElem?_getD, List.getElem?_eq_getElem hl] <;> rfl
/-! comprehensions over rows of things -/
section
variable {α : Type} {K : PySem.W.Frag} {σ : L2.St} {G H : Hp} {Q : VK} {ta : TE} {g : TG} {tt : TT} {te : TE} {ws : List Nat} {v : V} {d : PyData} {xs : List α} {h : α → PyData} {f : α → Option PyData}
/-- what one turn asks -/
abbrev FmBody (g : TG) (tt : TT) (te : TE) (ws : List Nat) (σ : L2.St) (K : PySem.W.Frag) (o : Option PyData) (u : V) (G' H' : Hp) : Prop :=
  ∀ (C : V → Hp → Prop) (N : Hp → Prop), (∀ y G2 H2 e, o = some e → Gro none G' H' G2 H2 → Rp K G2 y e → C y H2) → (∀ G2 H2, o = none → Gro none G' H' G2 H2 → N H2) → g u (wipe σ ws) H' fun σ2 H2 => wipe σ2 ws = wipe σ ws ∧ tt σ2 H2 fun b H3 => if b = true then te σ2 H3 C else N H3
/-- between two turns -/
def FmIn (K : PySem.W.Frag) (xs : List α) (f : α → Option PyData) (G H : Hp) (D : Addr) (i : Nat) (H' : Hp) : Prop :=
  ∃ G' acc, Gro none G H G' H' ∧ G' D = none ∧ H' D = some (.lst acc) ∧ Rps K G' acc ((xs.take i).filterMap f)
theorem FmIn.first (x : Ex G H) {D : Addr} (hD : H D = none) : FmIn K xs f G H D 0 (L2.upd H D (.lst [])) :=
  ⟨G, [], ⟨Ex.refl G, x.trans (Ex.new hD), fun a o _ h => Ex.new hD a o h, fun _ _ h => h⟩, x.back hD, upd_same, .nil⟩
theorem fm_le (xs : List α) (f : α → Option PyData) (i : Nat) : ((xs.take i).filterMap f).length ≤ i := Nat.le_trans (List.length_filterMap_le _ _) (List.length_take_le _ _)
theorem fm_next {i : Nat} {x : α} (hx : xs[i]? = some x) : (xs.take (i + 1)).filterMap f = (xs.take i).filterMap f ++ (f x).toList := by
  rw [List.take_add_one, hx, List.filterMap_append]
  cases e : f x <;> simp [e]
theorem FmIn.turn {D : Addr} {i : Nat} {x : α} {u : V} {H' : Hp} (hD : H D = none) (hx : xs[i]? = some x) (hn : xs.length ≤ 1000000) (hI : FmIn K xs f G H D i H')
    (body : ∀ G', Gro none G H G' H' → FmBody g tt te ws σ K (f x) u G' H') : g u (wipe σ ws) H' fun σ2 H2 => wipe σ2 ws = wipe σ ws ∧ tt σ2 H2 fun b H3 => if b = true then te σ2 H3 fun y H4 => ∃ acc, H4 D = some (.lst acc) ∧ acc.length < sizeLine ∧ FmIn K xs f G H D (i + 1) (L2.upd H4 D (.lst (acc ++ [y]))) else FmIn K xs f G H D (i + 1) H3 := by
  obtain ⟨G', acc, gr, gD, hacc, hr⟩ := hI
  have nn : H' D ≠ none := by
    rw [hacc]
    exact fun z => nomatch z
  have hi := (List.getElem?_eq_some_iff.mp hx).1
  refine body G' gr _ _ (fun y G2 H2 e he g2 r => ⟨acc, g2.ex _ _ hacc, line_lt ?_, ?_⟩) (fun G2 H2 he g2 => ?_)
  · rw [hr.len]
    have := fm_le xs f i
    omega
  · have t := gr.trans0 g2
    have gD2 := g2.n D nn gD
    refine ⟨G2, acc ++ [y], ⟨t.g, Ex.mut t.w gD2, fun a o z h => ?_, t.n⟩, gD2, upd_same, ?_⟩
    · rw [upd_ne (ne_of_none h hD)]
      exact t.k a o z h
    · rw [fm_next hx, he]
      exact (hr.mono g2.g).app (Rps.one r)
  · refine ⟨G2, acc, gr.trans0 g2, g2.n D nn gD, g2.ex _ _ hacc, ?_⟩
    rw [fm_next hx, he]
    show Rps K G2 acc (_ ++ [])
    rw [List.append_nil]
    exact hr.mono g2.g
/-- the list is known from now on -/
theorem FmIn.done {D : Addr} {H' : Hp} (hD : H D = none) (hI : FmIn K xs f G H D xs.length H') (q : ∀ G' H' D, Gro none G H G' H' → H D = none → Rp K G' (.ref D) (.list (xs.filterMap f)) → Q (.ref D) H') : Q (.ref D) H' := by
  obtain ⟨G', acc, gr, gD, hacc, hr⟩ := hI
  rw [List.take_length] at hr
  refine q (L2.upd G' D (.lst acc)) H' D ⟨gr.g.trans (Ex.new gD), Ex.add gr.w hacc, gr.k, fun a ha ga => ?_⟩ hD (.lst upd_same (hr.mono (Ex.new gD)))
  have na : a ≠ D := fun z => ha (by rw [z]; exact hD)
  rw [upd_ne na]
  exact gr.n a ha ga
theorem q_fmL (hv : Rp K G v (.list (xs.map h))) (x : Ex G H) (hn : xs.length ≤ 1000000) (body : ∀ (i : Nat) (x : α) u G' H', xs[i]? = some x → Gro none G H G' H' → Rp K G' u (h x) → FmBody g tt te ws σ K (f x) u G' H')
    (done : ∀ G' H' D, Gro none G H G' H' → H D = none → Rp K G' (.ref D) (.list (xs.filterMap f)) → Q (.ref D) H') : kcLst K g tt te ws σ Q v H := by
  obtain ⟨a, vs, rfl, hS, hr⟩ := rp_lst hv
  have hlen : vs.length = xs.length := by rw [hr.len, List.length_map]
  refine q_lst_lc (.inl (.inl (x _ _ hS))) (fun D hD => ⟨FmIn K xs f G H D, FmIn.first x hD, ?_, ?_, ?_⟩)
  · rintro i H' hi ⟨G', acc, gr, _⟩
    exact .inl (.inl (gr.w _ _ (gr.g _ _ hS)))
  · intro i u H' hu hI
    have hi : i < xs.length := by
      rw [← hlen]
      exact (List.getElem?_eq_some_iff.mp hu).1
    obtain ⟨d', hd', ru⟩ := hr.at hu
    rw [List.getElem?_map, List.getElem?_eq_getElem hi] at hd'
    cases hd'
    exact FmIn.turn hD (List.getElem?_eq_getElem hi) hn hI fun G' gr => body i _ u G' H' (List.getElem?_eq_getElem hi) gr (ru.mono gr.g)
  · intro H' hI
    rw [hlen] at hI
    exact FmIn.done hD hI done
theorem q_fmT (hv : Rp K G v (.tuple (xs.map h))) (x : Ex G H) (hn : xs.length ≤ 1000000) (body : ∀ (i : Nat) (x : α) u G' H', xs[i]? = some x → Gro none G H G' H' → Rp K G' u (h x) → FmBody g tt te ws σ K (f x) u G' H')
    (done : ∀ G' H' D, Gro none G H G' H' → H D = none → Rp K G' (.ref D) (.list (xs.filterMap f)) → Q (.ref D) H') : kcTup K g tt te ws σ Q v H := by
  obtain ⟨a, vs, rfl, hS, hr⟩ := rp_tup hv
  have hlen : vs.length = xs.length := by rw [hr.len, List.length_map]
  have hT := x.st hS
  refine ⟨a, rfl, ⟨vs, hT⟩, fun D hD => ?_⟩
  refine lc_it (walk_tup (K := K) (a := a) (xs := vs)) (FmIn K xs f G H D) (FmIn.first x hD) ?_ ?_ ?_
  · rintro i H' hi ⟨G', acc, gr, _⟩
    exact gr.w.st (gr.g.st hS)
  · rintro i u H1 H' hi' hI ⟨rfl, hu⟩
    have hi : i < xs.length := by
      rw [← hlen]
      exact hi'
    obtain ⟨d', hd', ru⟩ := hr.at hu
    rw [List.getElem?_map, List.getElem?_eq_getElem hi] at hd'
    cases hd'
    exact FmIn.turn hD (List.getElem?_eq_getElem hi) hn hI fun G' gr => body i _ u G' _ (List.getElem?_eq_getElem hi) gr (ru.mono gr.g)
  · intro H' hI
    rw [hlen] at hI
    exact FmIn.done hD hI done
/-- a walk over what ta tells: its value is a row of things, a list or a tuple -/
theorem q_fmS {b : Bool} (hv : Rp K G v (sqD b (xs.map h))) (x : Ex G H) (hn : xs.length ≤ 1000000) (body : ∀ (i : Nat) (x : α) u G' H', xs[i]? = some x → Gro none G H G' H' → Rp K G' u (h x) → FmBody g tt te ws σ K (f x) u G' H')
    (done : ∀ G' H' D, Gro none G H G' H' → H D = none → Rp K G' (.ref D) (.list (xs.filterMap f)) → Q (.ref D) H') : kcLst K g tt te ws σ Q v H ∨ kcTup K g tt te ws σ Q v H := by
  cases b with
  | false => exact .inl (q_fmL hv x hn body done)
  | true => exact .inr (q_fmT hv x hn body done)
theorem fm_map (xs : List α) (k : α → PyData) : xs.filterMap (fun x => some (k x)) = xs.map k := by
  induction xs with
  | nil => rfl
  | cons x r ih => rw [List.filterMap_cons, ih] <;> rfl
theorem fm_filt (xs : List α) (p : α → Bool) (k : α → PyData) : xs.filterMap (fun x => if p x then some (k x) else none) = (xs.filter p).map k := by
  induction xs with
  | nil => rfl
  | cons x r ih =>
    rw [List.filterMap_cons, ih, List.filter_cons]
    cases p x <;> rfl
end
/-! slices of rows -/
section
variable {K : PySem.W.Frag} {G H : Hp} {Q : VK} {v : V} {b : Bool} {ds : List PyData}
theorem Rps.cut {vs : List V} (h : Rps K G vs ds) (n m : Nat) : Rps K G ((vs.drop n).take m) ((ds.drop n).take m) := (h.drop n).take m
/-- row[:k] -/
theorem q_slTo {k : Nat} (hv : Rp K G v (sqD b ds)) (x : Ex G H) (q : ∀ G2 H2 p, Gro none G H G2 H2 → Rp K G2 (.ref p) (sqD b (ds.take k)) → Q (.ref p) H2) : rSlAny K v none (some (k : Int)) H Q := by
  cases b with
  | false =>
    obtain ⟨l, vs, rfl, hS, hr⟩ := rp_lst hv
    refine .inl ⟨l, vs, rfl, .inl (.inl (x _ _ hS)), fun p hp => ?_⟩
    rw [cut_to]
    exact q (L2.upd G p (.lst (vs.take k))) _ p (Gro.new x hp) (.lst upd_same ((hr.take k).mono (Ex.new (x.back hp))))
  | true =>
    obtain ⟨l, vs, rfl, hS, hr⟩ := rp_tup hv
    refine .inr (.inl ⟨l, vs, rfl, x.st hS, fun z => ?_, fun _ p hp => ?_⟩)
    · have e : ds.take k = ds := by
        have z2 : HT.sIx vs.length vs.length (some (k : Int)) = vs.length := z.2
        rw [HT.sIx_nat] at z2
        exact List.take_of_length_le (by rw [← hr.len]; omega)
      refine q G H l (Gro.refl x) ?_
      rw [e]
      exact hv
    · rw [cut_to]
      exact q (L2.upd G p (.tup (vs.take k))) _ p (Gro.new x hp) (.tup (.inl (.inl upd_same)) ((hr.take k).mono (Ex.new (x.back hp))))
/-- row[k:] -/
theorem q_slFrom {k : Nat} (hv : Rp K G v (sqD b ds)) (x : Ex G H) (hk : k ≤ ds.length) (q : ∀ G2 H2 p, Gro none G H G2 H2 → Rp K G2 (.ref p) (sqD b (ds.drop k)) → Q (.ref p) H2) : rSlAny K v (some (k : Int)) none H Q := by
  cases b with
  | false =>
    obtain ⟨l, vs, rfl, hS, hr⟩ := rp_lst hv
    refine .inl ⟨l, vs, rfl, .inl (.inl (x _ _ hS)), fun p hp => ?_⟩
    rw [cut_from (by rw [hr.len]; exact hk)]
    exact q (L2.upd G p (.lst (vs.drop k))) _ p (Gro.new x hp) (.lst upd_same ((hr.drop k).mono (Ex.new (x.back hp))))
  | true =>
    obtain ⟨l, vs, rfl, hS, hr⟩ := rp_tup hv
    refine .inr (.inl ⟨l, vs, rfl, x.st hS, fun z => ?_, fun _ p hp => ?_⟩)
    · have z1 : HT.sIx vs.length 0 (some (k : Int)) = 0 := z.1
      rw [HT.sIx_nat, hr.len] at z1
      have e : k = 0 ∨ ds = [] := by
        cases ds with
        | nil => exact .inr rfl
        | cons _ _ => left; simp only [List.length_cons] at z1; omega
      refine q G H l (Gro.refl x) ?_
      rcases e with rfl | rfl
      · exact hv
      · rw [List.drop_nil]
        exact hv
    · rw [cut_from (by rw [hr.len]; exact hk)]
      exact q (L2.upd G p (.tup (vs.drop k))) _ p (Gro.new x hp) (.tup (.inl (.inl upd_same)) ((hr.drop k).mono (Ex.new (x.back hp))))
/-- *row -/
theorem q_star {te : TE} {t : TA} {σ : L2.St} {Q : List V → Hp → Prop} (h : te σ H fun x H1 => ∃ p xs, x = V.ref p ∧ (SqT K H1 p xs ∨ SqL K H1 p xs) ∧ t σ H1 fun ys H2 => Q (xs ++ ys) H2) : StX.tStar K te t σ H Q := h
theorem q_starAt {p : Addr} {R : List V → Prop} (hv : Rp K G (.ref p) (sqD b ds)) (x : Ex G H) (q : ∀ xs, Rps K G xs ds → R xs) : ∃ p' xs, V.ref p = V.ref p' ∧ (SqT K H p' xs ∨ SqL K H p' xs) ∧ R xs := by
  cases b with
  | false =>
    obtain ⟨l, vs, e, hS, hr⟩ := rp_lst hv
    cases e
    exact ⟨p, vs, rfl, .inr (.inl (.inl (x _ _ hS))), q vs hr⟩
  | true =>
    obtain ⟨l, vs, e, hS, hr⟩ := rp_tup hv
    cases e
    exact ⟨p, vs, rfl, .inl (x.st hS), q vs hr⟩
/-- row + row, tuples -/
theorem q_catTT {u : V} {es : List PyData} (hv : Rp K G v (.tuple ds)) (hu : Rp K G u (.tuple es)) (x : Ex G H) (hl : ds.length + es.length ≤ 1000000) (q : ∀ G2 H2 p, Gro none G H G2 H2 → Rp K G2 (.ref p) (.tuple (ds ++ es)) → Q (.ref p) H2) : rCatA K v u H Q := by
  obtain ⟨l, vs, rfl, hS, hr⟩ := rp_tup hv
  obtain ⟨m, ws, rfl, hT, hs⟩ := rp_tup hu
  refine ⟨l, m, vs, ws, rfl, rfl, x.st hS, x.st hT, by rw [hr.len, hs.len]; exact Nat.le_trans hl (by decide), fun z => ?_, fun _ z => ?_, fun _ _ p hp => ?_⟩
  · have e : ds = [] := List.length_eq_zero_iff.mp (by rw [← hr.len, z] <;> rfl)
    refine q G H m (Gro.refl x) ?_
    rw [e]
    exact hu
  · have e : es = [] := List.length_eq_zero_iff.mp (by rw [← hs.len, z] <;> rfl)
    refine q G H l (Gro.refl x) ?_
    rw [e, List.append_nil]
    exact hv
  · exact q (L2.upd G p (.tup (vs ++ ws))) _ p (Gro.new x hp) (.tup (.inl (.inl upd_same)) ((hr.app hs).mono (Ex.new (x.back hp))))
theorem set_cut {α : Type} (xs : List α) (v : α) : ∀ k : Nat, k < xs.length → xs.take k ++ v :: xs.drop (k + 1) = xs.set k v := by
  induction xs with
  | nil => intro k h; simp at h
  | cons x r ih =>
    intro k h
    cases k with
    | zero => rfl
    | succ k =>
      show x :: (r.take k ++ v :: r.drop (k + 1)) = x :: r.set k v
      rw [ih k (by simpa using h)]
end
/-! nets and worlds, read -/
section
variable {M : MN} {W : Wd} {B c r k : Nat}
theorem MN.chan (hc : c < M.C.length) : atI M.N.c (c : Int) = some (Chn.d M.C[c]) := by
  refine atI_nat ?_
  show (M.C.map Chn.d)[c]? = _
  rw [List.getElem?_map, List.getElem?_eq_getElem hc] <;> rfl
theorem MN.rule (hr : r < M.R.length) : atI M.N.r (r : Int) = some (Rul.d M.R[r]) := by
  refine atI_nat ?_
  show (M.R.map Rul.d)[r]? = _
  rw [List.getElem?_map, List.getElem?_eq_getElem hr] <;> rfl
theorem kindM_at (hc : c < M.C.length) : kindM M c = M.C[c].k := by
  unfold kindM
  rw [List.getElem?_eq_getElem hc]
theorem kind_mem (ok : MNOk M) (hc : c < M.C.length) : kindM M c ∈ kindsL := by
  rw [kindM_at hc]
  exact ok.ch _ (List.getElem_mem hc)
theorem kind_shp {z : Str} (h : z ∈ kindsL) : Shp (.str z) := okD_le (okD_str ((show ∀ k ∈ kindsL, okD 0 (.str k) = true by decide +kernel) z h)) (by decide : 0 ≤ 60)
theorem shp_two (a b : Str) (ha : okD 0 (.str a) = true) (hb : okD 0 (.str b) = true) : Shp (.tuple [.str a, .str b]) ∧ Shp (.list [.str a, .str b]) := by
  constructor
  · refine okD_le (m := 60) (okD_tup (n := 0) (by simp) fun d hd => ?_) (by decide)
    simp only [List.mem_cons, List.mem_nil_iff, or_false] at hd
    rcases hd with rfl | rfl
    · exact ha
    · exact hb
  · exact shp_list (okD_le (m := 60) (okD_tup (n := 0) (by simp) fun d hd => by
      simp only [List.mem_cons, List.mem_nil_iff, or_false] at hd
      rcases hd with rfl | rfl
      · exact ha
      · exact hb) (by decide))
theorem shp_ord : Shp (.tuple [.str "order", .str "order lossy"]) ∧ Shp (.list [.str "order", .str "order lossy"]) := shp_two _ _ (by decide +kernel) (by decide +kernel)
theorem shp_los : Shp (.tuple [.str "order lossy", .str "loose lossy"]) ∧ Shp (.list [.str "order lossy", .str "loose lossy"]) := shp_two _ _ (by decide +kernel) (by decide +kernel)
theorem WdOk.at2 (h : WdOk M W B) (hc : c < M.C.length) (b : Bool) : atI (W.p.map (rowMD b)) (c : Int) = some (rowMD b (rowM W c)) := by
  refine atI_nat ?_
  rw [List.getElem?_map, h.rowAt hc] <;> rfl
theorem at_map {α : Type} {f : α → PyData} {xs : List α} {i : Nat} (h : i < xs.length) : atI (xs.map f) (i : Int) = some (f xs[i]) := by
  refine atI_nat ?_
  rw [List.getElem?_map, List.getElem?_eq_getElem h] <;> rfl
end
theorem len_flat {α β : Type} (f : α → List β) (m : Nat) : ∀ xs : List α, (∀ x ∈ xs, (f x).length ≤ m) → ((xs.map f).flatten).length ≤ xs.length * m
  | [], _ => by simp
  | x :: xs, h => by
    rw [List.map_cons, List.flatten_cons, List.length_append, List.length_cons, Nat.succ_mul]
    have h1 := h x (List.mem_cons_self ..)
    have h2 := len_flat f m xs fun y hy => h y (List.mem_cons_of_mem _ hy)
    omega
theorem losses_len {M : MN} {W : Wd} {B : Nat} (h : WdOk M W B) (c : Nat) : (lossesM M W c).length ≤ B := by
  unfold lossesM
  split
  · rw [List.length_map]
    exact Nat.le_trans (hand_len M W c) (h.row c)
  · exact Nat.zero_le _
theorem takes_len {M : MN} {W : Wd} {B : Nat} (h : WdOk M W B) (r c k : Nat) : (takesM M W r c k).length ≤ B := by
  unfold takesM
  rw [List.length_map]
  exact Nat.le_trans (List.length_filter_le _ _) (Nat.le_trans (hand_len M W c) (h.row c))
theorem rule_len {M : MN} {W : Wd} {B : Nat} (h : WdOk M W B) (r : Nat) : (ruleM M W r).length ≤ B + 1 := by
  unfold ruleM
  split
  · exact Nat.zero_le _
  · split
    · split
      · exact Nat.le_trans (takes_len h ..) (Nat.le_succ _)
      · exact Nat.le_add_left _ _
    · exact Nat.zero_le _
theorem flat_next {β : Type} (f : Nat → List β) (i : Nat) : ((List.range (i + 1)).map f).flatten = ((List.range i).map f).flatten ++ f i := by
  rw [List.range_succ, List.map_append, List.flatten_append]
  simp
theorem rps2 {K : PySem.W.Frag} {G : Hp} {a b : PyData} {vs : List V} (h : Rps K G vs [a, b]) : ∃ v1 v2, vs = [v1, v2] ∧ Rp K G v1 a ∧ Rp K G v2 b := by
  obtain ⟨v1, _, rfl, r1, h⟩ := rps_cons h
  obtain ⟨v2, _, rfl, r2, h⟩ := rps_cons h
  obtain rfl := rps_nil h
  exact ⟨_, _, rfl, r1, r2⟩
theorem rp_nD {K : PySem.W.Frag} {G : Hp} {v : V} {n : Nat} (h : Rp K G v (nD n)) : v = .int (n : Int) := rp_int h
theorem q_extend {H : Hp} {Q : VK} {l b : Addr} {xs zs : List V} (hl : H l = some (.lst xs)) (hb : H b = some (.lst zs)) (hz : xs.length + zs.length ≤ 1000000) (q : Q .non (L2.upd H l (.lst (xs ++ zs)))) : rExtend (.ref l) [.ref b] H Q := ⟨l, b, xs, zs, rfl, rfl, hl, hb, Nat.le_trans hz (by decide), q⟩
/-- a cell that grows beside what is known -/
structure Acc (l : Addr) (G H G' H' : Hp) (vs : List V) : Prop where
  gr : Gro none G H G' H'
  gl : G' l = none
  hl : H' l = some (.lst vs)
  nl : H l = none
section
variable {l : Addr} {G H G1 H1 G2 H2 : Hp} {vs ws : List V}
theorem Acc.first (e : Ex G H) (hl : H l = none) : Acc l G H G (L2.upd H l (.lst vs)) vs := ⟨Gro.up e (Ex.new hl), e.back hl, upd_same, hl⟩
theorem Acc.w (s : Acc l G H G1 H1 vs) : Ex G1 H1 := s.gr.w
theorem Acc.gro (s : Acc l G H G1 H1 vs) (g : Gro none G1 H1 G2 H2) : Acc l G H G2 H2 vs := ⟨s.gr.trans0 g, g.n l (by rw [s.hl]; exact fun z => nomatch z) s.gl, g.ex _ _ s.hl, s.nl⟩
theorem Acc.put (s : Acc l G H G1 H1 vs) : Acc l G H G1 (L2.upd H1 l (.lst ws)) ws :=
  ⟨⟨s.gr.g, Ex.mut s.gr.w s.gl, fun a o z h => by
    rw [upd_ne (ne_of_none h s.nl)]
    exact s.gr.k a o z h, s.gr.n⟩, s.gl, upd_same, s.nl⟩
theorem Acc.know (s : Acc l G H G1 H1 vs) : Gro none G H (L2.upd G1 l (.lst vs)) H1 :=
  ⟨s.gr.g.trans (Ex.new s.gl), Ex.add s.gr.w s.hl, s.gr.k, fun a ha ga => by
    have na : a ≠ l := fun z => ha (by rw [z]; exact s.nl)
    rw [upd_ne na]
    exact s.gr.n a ha ga⟩
end
/-- a cut that keeps all -/
theorem q_cutId {t u : TS} {D : Ends} {σ : L2.St} {H : Hp} (h : t { D with nx := u D } σ H) : tCut t u D σ H := ⟨u D, h, fun _ _ z => z⟩
theorem q_par3 {i j l : Nat} {ta : TA} {D : Ends} {σ : L2.St} {H : Hp} (h : ta σ H fun vs H1 => ∃ u v w, vs = [u, v, w] ∧ D.nx (((σ.set i (some u)).set j (some v)).set l (some w)) H1) : tPar3 i j l ta D σ H := h
theorem q_par2 {i j : Nat} {ta : TA} {D : Ends} {σ : L2.St} {H : Hp} (h : ta σ H fun vs H1 => ∃ v w, vs = [v, w] ∧ D.nx ((σ.set i (some v)).set j (some w)) H1) : tPar i j ta D σ H := h
theorem q_three {u v w : V} {R : V → V → V → Prop} (h : R u v w) : ∃ a b c, [u, v, w] = [a, b, c] ∧ R a b c := ⟨u, v, w, rfl, h⟩
theorem q_two {u v : V} {R : V → V → Prop} (h : R u v) : ∃ a b, [u, v] = [a, b] ∧ R a b := ⟨u, v, rfl, h⟩
theorem pa_starK {X : Cx} {K : PySem.W.Frag} {e : Expr} {es : List Expr} {te : TE} {t : TA} {p : Pos} (h : X.K = K) (he : PE X e te) (hr : PA X es t) (hs : starEach (.Starred e p :: es) X.env = (true, eval e X.env) :: starEach es X.env := by rfl) : PA X (.Starred e p :: es) (StX.tStar K te t) := h ▸ StX.pa_star he hr hs
end Cw

set_option maxHeartbeats 4000000
/-! a drawn net in numbers; what a step leaves -/
namespace Cw
open PySem PySem.Spec PyProof.Rows L2
def chnOf : PyData → Chn
  | .tuple [.str z, .int g, .int t, .str k] => ⟨z, g.toNat, t.toNat, k⟩
  | _ => ⟨Str.empty, 0, 0, Str.empty⟩
def actOf : PyData → Act
  | .tuple [.str w, .int c, .int k] => if w = ("send" : Str) then .send c.toNat k.toNat else .take c.toNat k.toNat
  | _ => .do_
def rulOf : PyData → Rul
  | .tuple [.int p, .int s, a, .int t] => ⟨p.toNat, s.toNat, actOf a, t.toNat⟩
  | _ => ⟨0, 0, .do_, 0⟩
def mnOf (ps cs rs : List PyData) : MN := ⟨ps, cs.map chnOf, rs.map rulOf⟩
theorem chn_back {m : Nat} {d : PyData} (h : ChN m d) : (chnOf d).d = d ∧ (chnOf d).k ∈ kindsL := by
  obtain ⟨z, g, t, k, rfl, _, _, _, _, hk⟩ := h
  exact ⟨rfl, hk⟩
theorem rul_back {ps cs : List PyData} {d : PyData} (h : RuOk ps cs d) : (rulOf d).d = d ∧ (rulOf d).p < ps.length ∧ (∀ c k, (rulOf d).a = .send c k ∨ (rulOf d).a = .take c k → c < cs.length) := by
  obtain ⟨p, s, t, a, z, st, rfl, hp, _, _, ha⟩ := h
  have hpl := (List.getElem?_eq_some_iff.mp hp).1
  rcases ha with rfl | ⟨c, k, y, g, tk, kd, hc, _, ⟨rfl, _⟩ | ⟨rfl, _⟩⟩
  · refine ⟨rfl, hpl, fun c k h => ?_⟩
    rcases h with h | h <;> cases h
  · have hcl := (List.getElem?_eq_some_iff.mp hc).1
    have e : actOf (.tuple [.str "send", .int c, .int k]) = .send c k := by simp [actOf]
    refine ⟨?_, hpl, fun c' k' h => ?_⟩
    · show PyData.tuple [nD p, nD s, Act.d (actOf (.tuple [.str "send", .int c, .int k])), nD t] = _
      rw [e] <;> rfl
    · have h2 : (actOf (.tuple [.str "send", .int c, .int k])) = .send c' k' ∨ (actOf (.tuple [.str "send", .int c, .int k])) = .take c' k' := h
      rw [e] at h2
      rcases h2 with h2 | h2 <;> cases h2
      exact hcl
  · have hcl := (List.getElem?_eq_some_iff.mp hc).1
    have e : actOf (.tuple [.str "take", .int c, .int k]) = .take c k := by
      simp only [actOf]
      exact if_neg (by decide +kernel)
    refine ⟨?_, hpl, fun c' k' h => ?_⟩
    · show PyData.tuple [nD p, nD s, Act.d (actOf (.tuple [.str "take", .int c, .int k])), nD t] = _
      rw [e] <;> rfl
    · have h2 : (actOf (.tuple [.str "take", .int c, .int k])) = .send c' k' ∨ (actOf (.tuple [.str "take", .int c, .int k])) = .take c' k' := h
      rw [e] at h2
      rcases h2 with h2 | h2 <;> cases h2
      exact hcl
theorem map_back {α : Type} (f : PyData → α) (g : α → PyData) : ∀ ds : List PyData, (∀ d ∈ ds, g (f d) = d) → (ds.map f).map g = ds
  | [], _ => rfl
  | d :: ds, h => by
    rw [List.map_cons, List.map_cons, h d (List.mem_cons_self ..), map_back f g ds fun e m => h e (List.mem_cons_of_mem _ m)]
theorem LNet.mnN {ps cs rs : List PyData} (h : LNet ps cs rs) : (mnOf ps cs rs).N = ⟨ps, cs, rs⟩ := by
  show (⟨ps, (cs.map chnOf).map Chn.d, (rs.map rulOf).map Rul.d⟩ : NetD) = _
  rw [map_back _ _ cs fun d m => (chn_back (h.ck d m)).1, map_back _ _ rs fun d m => (rul_back (h.rk d m)).1]
theorem LNet.mnOk {ps cs rs : List PyData} (h : LNet ps cs rs) : MNOk (mnOf ps cs rs) where
  lp := h.p5
  lc := by show (cs.map chnOf).length ≤ 8; rw [List.length_map]; exact h.c8
  lr := by show (rs.map rulOf).length ≤ 40; rw [List.length_map]; exact h.r40
  ch := fun c m => by
    obtain ⟨d, hd, rfl⟩ := List.mem_map.mp m
    exact (chn_back (h.ck d hd)).2
  ru := fun r m => by
    obtain ⟨d, hd, rfl⟩ := List.mem_map.mp m
    obtain ⟨_, h2, h3⟩ := rul_back (h.rk d hd)
    refine ⟨h2, fun c k z => ?_⟩
    show c < (cs.map chnOf).length
    rw [List.length_map]
    exact h3 c k z
/-- the net as the laws hold it -/
def MN.d (M : MN) : PyData := .tuple [.tuple M.ps, .tuple (M.C.map Chn.d), .tuple (M.R.map Rul.d)]
theorem LNet.mnd {ps cs rs : List PyData} (h : LNet ps cs rs) : (mnOf ps cs rs).d = .tuple [.tuple ps, .tuple cs, .tuple rs] := by
  have e := h.mnN
  have e2 : (mnOf ps cs rs).C.map Chn.d = cs := congrArg NetD.c e
  have e3 : (mnOf ps cs rs).R.map Rul.d = rs := congrArg NetD.r e
  show PyData.tuple [.tuple ps, .tuple ((mnOf ps cs rs).C.map Chn.d), .tuple ((mnOf ps cs rs).R.map Rul.d)] = _
  rw [e2, e3]
/-- a deed of the net -/
def DV (M : MN) : Deed → Prop
  | .act r => ∃ a, M.R[r]?.map Rul.a = some a ∧ ∀ c k, a ≠ .take c k
  | .take r _ => ∃ c t, M.R[r]?.map Rul.a = some (.take c t)
  | .lose c _ => c < M.C.length
theorem rule_mem {M : MN} {W : Wd} {r : Nat} {D : Deed} (h : D ∈ ruleM M W r) : r < M.R.length ∧ ((D = .act r ∧ ∃ a, M.R[r]?.map Rul.a = some a ∧ ∀ c k, a ≠ .take c k) ∨ (∃ k c t, D = .take r k ∧ M.R[r]?.map Rul.a = some (.take c t))) := by
  unfold ruleM at h
  cases e : M.R[r]? with
  | none =>
    rw [e] at h
    cases h
  | some R =>
    have hr := (List.getElem?_eq_some_iff.mp e).1
    rw [e] at h
    simp only at h
    split at h
    · refine ⟨hr, ?_⟩
      cases ea : R.a with
      | take c k =>
        rw [ea] at h
        unfold takesM at h
        obtain ⟨m, _, rfl⟩ := List.mem_map.mp h
        exact .inr ⟨m.1, c, k, rfl, by show some R.a = _; rw [ea]⟩
      | do_ =>
        rw [ea] at h
        exact .inl ⟨List.mem_singleton.mp h, .do_, by show some R.a = _; rw [ea], fun _ _ z => nomatch z⟩
      | send c k =>
        rw [ea] at h
        exact .inl ⟨List.mem_singleton.mp h, .send c k, by show some R.a = _; rw [ea], fun _ _ z => nomatch z⟩
    · cases h
theorem loss_mem {M : MN} {W : Wd} {c : Nat} {D : Deed} (h : D ∈ lossesM M W c) : ∃ k, D = .lose c k ∧ lossd (kindM M c) = true := by
  unfold lossesM at h
  split at h
  · obtain ⟨m, _, rfl⟩ := List.mem_map.mp h
    exact ⟨m.1, rfl, by assumption⟩
  · cases h
theorem poss_mem {M : MN} {W : Wd} {D : Deed} (h : D ∈ possM M W) : (∃ r, r < M.R.length ∧ D ∈ ruleM M W r) ∨ (∃ c, c < M.C.length ∧ D ∈ lossesM M W c) := by
  unfold possM at h
  rcases List.mem_append.mp h with h | h
  · obtain ⟨l, hl, hD⟩ := List.mem_flatten.mp h
    obtain ⟨r, hr, rfl⟩ := List.mem_map.mp hl
    exact .inl ⟨r, List.mem_range.mp hr, hD⟩
  · obtain ⟨l, hl, hD⟩ := List.mem_flatten.mp h
    obtain ⟨r, hr, rfl⟩ := List.mem_map.mp hl
    exact .inr ⟨r, List.mem_range.mp hr, hD⟩
theorem poss_dv {M : MN} {W : Wd} {D : Deed} (h : D ∈ possM M W) : DV M D := by
  rcases poss_mem h with ⟨r, hr, h⟩ | ⟨c, hc, h⟩
  · rcases (rule_mem h).2 with ⟨rfl, a, h1, h2⟩ | ⟨k, c, t, rfl, h1⟩
    · exact ⟨a, h1, h2⟩
    · exact ⟨c, t, h1⟩
  · obtain ⟨k, rfl, _⟩ := loss_mem h
    exact hc
theorem set_rows {B : Nat} {p : List (List (Nat × Nat))} {c : Nat} {r : List (Nat × Nat)} (h : ∀ x ∈ p, x.length ≤ B) (hr : r.length ≤ B + 1) : ∀ x ∈ p.set c r, x.length ≤ B + 1 := fun x hx => by
  rcases List.mem_or_eq_of_mem_set hx with h1 | rfl
  · exact Nat.le_trans (h x h1) (Nat.le_succ _)
  · exact hr
theorem WdOk.gone {M : MN} {W : Wd} {B : Nat} (h : WdOk M W B) (c k : Nat) : ∀ x ∈ gone W c k, x.length ≤ B + 1 :=
  set_rows h.b (Nat.le_trans (List.length_filter_le _ _) (Nat.le_trans (h.row c) (Nat.le_succ _)))
theorem WdOk.step {M : MN} {W : Wd} {B : Nat} (h : WdOk M W B) (D : Deed) : WdOk M (stepM M W D) (B + 1) := by
  have same : ∀ (s : List Nat), s.length = M.ps.length → WdOk M ⟨s, W.n, W.p⟩ (B + 1) := fun s hs => ⟨hs, h.ln, h.lp, fun x hx => Nat.le_trans (h.b x hx) (Nat.le_succ _)⟩
  have hg : ∀ (s : List Nat) (c k : Nat), s.length = M.ps.length → WdOk M ⟨s, W.n, Cw.gone W c k⟩ (B + 1) := fun s c k hs => ⟨hs, h.ln, by show (W.p.set _ _).length = _; rw [List.length_set]; exact h.lp, h.gone c k⟩
  cases D with
  | lose c k => exact hg W.s c k h.ls
  | act r =>
    show WdOk M (match M.R[r]? with | none => W | some R => _) (B + 1)
    cases M.R[r]? with
    | none => exact same W.s h.ls
    | some R =>
      show WdOk M (match R.a with | .send c k => _ | _ => _) (B + 1)
      cases R.a with
      | send c k =>
        refine ⟨by show (W.s.set _ _).length = _; rw [List.length_set]; exact h.ls, by show (W.n.set _ _).length = _; rw [List.length_set]; exact h.ln, by show (W.p.set _ _).length = _; rw [List.length_set]; exact h.lp, set_rows h.b ?_⟩
        rw [List.length_append]
        have := h.row c
        simp only [List.length_cons, List.length_nil]
        omega
      | do_ => exact same _ (by rw [List.length_set]; exact h.ls)
      | take c k => exact same _ (by rw [List.length_set]; exact h.ls)
  | take r k =>
    show WdOk M (match M.R[r]? with | none => W | some R => _) (B + 1)
    cases M.R[r]? with
    | none => exact same W.s h.ls
    | some R =>
      show WdOk M (match R.a with | .take c _ => _ | _ => _) (B + 1)
      cases R.a with
      | take c t => exact hg _ c k (by rw [List.length_set]; exact h.ls)
      | do_ => exact same _ (by rw [List.length_set]; exact h.ls)
      | send c t => exact same _ (by rw [List.length_set]; exact h.ls)
theorem start_ok (M : MN) : WdOk M (startM M) 0 := ⟨by simp [startM], by simp [startM], by simp [startM], fun r hr => by
  rw [(List.mem_replicate.mp hr).2]
  exact Nat.le_refl _⟩
theorem start_d (M : MN) : startD M.N = (startM M).d true := by
  show PyData.tuple [.tuple (List.replicate M.ps.length (.int 0)), .tuple (List.replicate (M.C.map Chn.d).length (.int 0)), .tuple (List.replicate (M.C.map Chn.d).length (.tuple []))] = PyData.tuple [.tuple ((List.replicate M.ps.length 0).map nD), .tuple ((List.replicate M.C.length 0).map nD), .tuple ((List.replicate M.C.length []).map (rowMD true))]
  rw [List.map_replicate, List.map_replicate, List.map_replicate, List.length_map]
  rfl
theorem poss_len {M : MN} {W : Wd} {B : Nat} (ok : MNOk M) (h : WdOk M W B) (hB : B ≤ 1000) : (possM M W).length ≤ 100000 := by
  unfold possM
  rw [List.length_append]
  have h1 := len_flat (ruleM M W) 1001 (List.range M.R.length) fun r _ => by have := rule_len h r; omega
  have h2 := len_flat (lossesM M W) 1000 (List.range M.C.length) fun r _ => by have := losses_len h r; omega
  rw [List.length_range] at h1 h2
  have := ok.lr
  have := ok.lc
  have h3 : M.R.length * 1001 ≤ 40 * 1001 := Nat.mul_le_mul_right _ (by omega)
  have h4 : M.C.length * 1000 ≤ 8 * 1000 := Nat.mul_le_mul_right _ (by omega)
  omega
theorem sm_up : ∀ {n : Nat} {d : PyData}, Sm n d → Sm (n + 1) d
  | 0, _, h => h.elim
  | n + 1, .list ds, h => ⟨h.1, fun d m => sm_up (h.2 d m)⟩
  | n + 1, .tuple ds, h => ⟨h.1, fun d m => sm_up (h.2 d m)⟩
  | n + 1, .dict _, h => h.elim
  | n + 1, .none, _ => True.intro
  | n + 1, .bool _, _ => True.intro
  | n + 1, .int _, _ => True.intro
  | n + 1, .str _, _ => True.intro
theorem sm_poss {M : MN} {W : Wd} {B : Nat} (ok : MNOk M) (h : WdOk M W B) (hB : B ≤ 1000) : Sm 5 (.tuple ((possM M W).map Deed.d)) := by
  refine ⟨by rw [List.length_map]; have := poss_len ok h hB; omega, fun d hd => ?_⟩
  obtain ⟨D, _, rfl⟩ := List.mem_map.mp hd
  cases D <;> exact ⟨by simp [Deed.ps], fun d hd => by
    simp only [Deed.ps, List.mem_cons, List.mem_nil_iff, or_false] at hd
    rcases hd with rfl | rfl | rfl <;> exact True.intro⟩
theorem sm_wd {M : MN} {W : Wd} {B : Nat} (ok : MNOk M) (h : WdOk M W B) (hB : B ≤ 1000) : Sm 5 (W.d true) := by
  have intsS : ∀ (l : List Nat) (n : Nat), l.length ≤ 1000 → Sm (n + 2) (.tuple (l.map nD)) := fun l n hl => ⟨by rw [List.length_map]; omega, fun d hd => by
    obtain ⟨k, _, rfl⟩ := List.mem_map.mp hd
    exact True.intro⟩
  refine ⟨by simp, fun d hd => ?_⟩
  simp only [List.mem_cons, List.mem_nil_iff, or_false] at hd
  rcases hd with rfl | rfl | rfl
  · exact intsS W.s 2 (by rw [h.ls]; have := ok.lp; omega)
  · exact intsS W.n 2 (by rw [h.ln]; have := ok.lc; omega)
  · refine ⟨by rw [List.length_map, h.lp]; have := ok.lc; omega, fun d hd => ?_⟩
    obtain ⟨r, hr, rfl⟩ := List.mem_map.mp hd
    have := h.b r hr
    refine ⟨by rw [List.length_map]; omega, fun d hd => ?_⟩
    obtain ⟨m, _, rfl⟩ := List.mem_map.mp hd
    exact ⟨by simp, fun d hd => by
      simp only [List.mem_cons, List.mem_nil_iff, or_false] at hd
      rcases hd with rfl | rfl <;> exact True.intro⟩
theorem nD_inj {a b : Nat} (h : nD a = nD b) : a = b := by
  have h2 : (a : Int) = (b : Int) := PyData.int.inj h
  omega
theorem deed_inj {D D' : Deed} (h : D.ps = D'.ps) : D = D' := by
  cases D <;> cases D' <;> simp only [Deed.ps, List.cons.injEq, and_true] at h
  · rw [nD_inj h.2]
  · exact absurd h.2.2 (by simp)
  · exact absurd h.2.2 (by simp)
  · exact absurd h.2.2 (by simp)
  · rw [nD_inj h.2.1, nD_inj h.2.2]
  · exact absurd (PyData.str.inj h.1) (by decide +kernel)
  · exact absurd h.2.2 (by simp)
  · exact absurd (PyData.str.inj h.1) (by decide +kernel)
  · rw [nD_inj h.2.1, nD_inj h.2.2]
theorem Acc.newL {l p : Addr} {G H G1 H1 : Hp} {ws : List V} (g : Gro none G H G1 H1) (hp : H1 p = none) : Acc p G H G1 (L2.upd H1 p (.lst ws)) ws := ⟨g.trans0 (Gro.up g.w (Ex.new hp)), g.w.back hp, upd_same, g.ex.back hp⟩
/-! a box, and a list that grows -/
section
variable {b l : Addr} {G H G1 H1 : Hp} {us vs ws : List V} {o : HO}
theorem St.cell (s : St b G H G1 H1 us) (gl : G1 l = none) (hl : H l = none) (ne : b ≠ l) : St b G H G1 (L2.upd H1 l o) us := ⟨s.gr.cell gl hl, s.gb, upd_mu s.hb ne⟩
theorem St.knowC (s : St b G H G1 H1 us) (gl : G1 l = none) (hl : H l = none) (ne : b ≠ l) (h : H1 l = some o) : St b G H (L2.upd G1 l o) H1 us := ⟨s.gr.know gl hl h, by rw [upd_ne ne]; exact s.gb, s.hb⟩
theorem St.fresh (s : St b G H G1 H1 us) (hp : H1 l = none) : H l = none := s.gr.fresh hp (Ne.symm (s.ne hp))
end
def pqN : Nat → Str
  | 0 => "p"
  | 1 => "q"
  | _ => "r"
def cdN : Nat → Str
  | 0 => "c"
  | 1 => "d"
  | 2 => "e"
  | _ => "f"
theorem q_ixPQ {K : PySem.W.Frag} {H : Hp} {Q : VK} {i : Nat} (h : i < 3) (q : Q (.str (pqN i)) H) : rIx K (.str "pqr") (.int (i : Int)) H Q := by
  obtain rfl | rfl | rfl : i = 0 ∨ i = 1 ∨ i = 2 := by omega
  · exact .inr (.inr ⟨"pqr", 0, 112, rfl, rfl, by decide, by decide +kernel, q⟩)
  · exact .inr (.inr ⟨"pqr", 1, 113, rfl, rfl, by decide, by decide +kernel, q⟩)
  · exact .inr (.inr ⟨"pqr", 2, 114, rfl, rfl, by decide, by decide +kernel, q⟩)
theorem q_ixCD {K : PySem.W.Frag} {H : Hp} {Q : VK} {i : Nat} (h : i < 4) (q : Q (.str (cdN i)) H) : rIx K (.str "cdef") (.int (i : Int)) H Q := by
  obtain rfl | rfl | rfl | rfl : i = 0 ∨ i = 1 ∨ i = 2 ∨ i = 3 := by omega
  · exact .inr (.inr ⟨"cdef", 0, 99, rfl, rfl, by decide, by decide +kernel, q⟩)
  · exact .inr (.inr ⟨"cdef", 1, 100, rfl, rfl, by decide, by decide +kernel, q⟩)
  · exact .inr (.inr ⟨"cdef", 2, 101, rfl, rfl, by decide, by decide +kernel, q⟩)
  · exact .inr (.inr ⟨"cdef", 3, 102, rfl, rfl, by decide, by decide +kernel, q⟩)
theorem pq_mem {i : Nat} (h : i < 3) : pqN i ∈ poolPx := by
  obtain rfl | rfl | rfl : i = 0 ∨ i = 1 ∨ i = 2 := by omega
  all_goals decide +kernel
theorem cd_mem {i : Nat} (h : i < 4) : cdN i ∈ poolCx := by
  obtain rfl | rfl | rfl | rfl : i = 0 ∨ i = 1 ∨ i = 2 ∨ i = 3 := by omega
  all_goals decide +kernel
theorem pq_nodup {m : Nat} (h : m ≤ 3) : ((List.range m).map pqN).Nodup := by
  obtain rfl | rfl | rfl | rfl : m = 0 ∨ m = 1 ∨ m = 2 ∨ m = 3 := by omega
  all_goals decide +kernel
theorem cd_nodup {m : Nat} (h : m ≤ 4) : ((List.range m).map cdN).Nodup := by
  obtain rfl | rfl | rfl | rfl | rfl : m = 0 ∨ m = 1 ∨ m = 2 ∨ m = 3 ∨ m = 4 := by omega
  all_goals decide +kernel
end Cw

set_option maxHeartbeats 4000000
/-! a pool of draws: a dict -/
namespace Cw
open PySem PySem.Spec PyProof.Rows L2
theorem hu1 {X : Cx} {k : Nat} (hr : Room k X.A) : X.A.units + 1 < cLine := by
  have := hu64 hr
  omega
def poolK (c : Addr) (a r l : Int) (s : Bool) (sd t : Int) : List (Key × V) := [(.inr "cells", .ref c), (.inr "at", .int a), (.inr "rest", .int r), (.inr "left", .int l), (.inr "small", .bl s), (.inr "seed", .int sd), (.inr "turn", .int t)]
def rDGet : V → V → Hp → VK → Prop := fun x y H Q => ∃ a v, x = .ref a ∧ DGet H a y (some v) ∧ Q v H
def rDPut : V → V → V → Hp → (Hp → Prop) → Prop := fun x y v H N => ∃ a H4, x = .ref a ∧ DPut H a y v H4 ∧ N H4
section
variable {K : PySem.W.Frag} {σ : L2.St} {G H : Hp} {Q : VK} {D : Ends} {td ty tv : TE} {b c : Addr} {x : Str} {v : V} {kvs kvs' : List (Key × V)} {N : Hp → Prop} {a r l sd t : Int} {s : Bool} {n : Int} {z : Bool}
theorem q_dget (h : td σ H fun x H1 => ty σ H1 fun y H2 => rDGet x y H2 Q) : tDGet td ty σ H Q := h
theorem q_dput (h : tv σ H fun v H1 => td σ H1 fun x H2 => ty σ H2 fun y H3 => rDPut x y v H3 (D.nx σ)) : sDPut td ty tv D σ H := h
theorem q_dgA (hb : H b = some (.dK kvs)) (hv : valV kvs (.inr x) = some v) (q : Q v H) : rDGet (.ref b) (.str x) H Q := ⟨b, v, rfl, .inl ⟨kvs, .inr x, .inl hb, rfl, hv.symm⟩, q⟩
theorem q_dgG (hb : G b = some (.dK kvs)) (e : Ex G H) (hv : valV kvs (.inr x) = some v) (q : Q v H) : rDGet (.ref b) (.str x) H Q := q_dgA (e _ _ hb) hv q
theorem q_dgU (hv : valV kvs (.inr x) = some v) (q : Q v (L2.upd H b (.dK kvs))) : rDGet (.ref b) (.str x) (L2.upd H b (.dK kvs)) Q := q_dgA upd_same hv q
theorem q_dpU (e : putK kvs (.inr x) v = kvs') (hl : kvs.length ≤ 1000) (q : N (L2.upd H b (.dK kvs'))) : rDPut (.ref b) (.str x) v (L2.upd H b (.dK kvs)) N := by
  refine ⟨b, _, rfl, DPut.k (k := .inr x) upd_same (Nat.lt_of_le_of_lt hl (by decide)), ?_⟩
  rw [upd_upd, e]
  exact q
theorem q_dpA (hb : H b = some (.dK kvs)) (e : putK kvs (.inr x) v = kvs') (hl : kvs.length ≤ 1000) (q : N (L2.upd H b (.dK kvs'))) : rDPut (.ref b) (.str x) v H N := by
  refine ⟨b, _, rfl, DPut.k (k := .inr x) hb (Nat.lt_of_le_of_lt hl (by decide)), ?_⟩
  rw [e]
  exact q
theorem q_disp {trs : List (TE × TE)} (h : ∀ p, H p = none → tPairs trs σ (L2.upd H p (.dK [])) fun ps H2 => H2 p = some (.dK []) ∧ ∃ kvs : List (Key × V), ps = kvs.map (fun kv => (kV kv.1, kv.2)) ∧ kvs.length ≤ 15 ∧ Q (.ref p) (L2.upd H2 p (.dK (mergeK [] kvs)))) : tDisp trs σ H Q := h
theorem q_pairs {r : List (TE × TE)} {R : List (V × V) → Hp → Prop} (h : td σ H fun x H1 => ty σ H1 fun y H2 => tPairs r σ H2 fun ps H3 => R ((x, y) :: ps) H3) : tPairs ((td, ty) :: r) σ H R := h
theorem q_pairs0 {R : List (V × V) → Hp → Prop} (h : R [] H) : tPairs [] σ H R := h
theorem q_puAt (q : N (L2.upd H b (.dK (poolK c n r l s sd t)))) : rDPut (.ref b) (.str "at") (.int n) (L2.upd H b (.dK (poolK c a r l s sd t))) N := q_dpU (by rfl) (show (7 : Nat) ≤ 1000 by decide) q
theorem q_puRest (q : N (L2.upd H b (.dK (poolK c a n l s sd t)))) : rDPut (.ref b) (.str "rest") (.int n) (L2.upd H b (.dK (poolK c a r l s sd t))) N := q_dpU (by rfl) (show (7 : Nat) ≤ 1000 by decide) q
theorem q_puLeft (q : N (L2.upd H b (.dK (poolK c a r n s sd t)))) : rDPut (.ref b) (.str "left") (.int n) (L2.upd H b (.dK (poolK c a r l s sd t))) N := q_dpU (by rfl) (show (7 : Nat) ≤ 1000 by decide) q
theorem q_puSmall (q : N (L2.upd H b (.dK (poolK c a r l z sd t)))) : rDPut (.ref b) (.str "small") (.bl z) (L2.upd H b (.dK (poolK c a r l s sd t))) N := q_dpU (by rfl) (show (7 : Nat) ≤ 1000 by decide) q
theorem q_puTurn (q : N (L2.upd H b (.dK (poolK c a r l s sd n)))) : rDPut (.ref b) (.str "turn") (.int n) (L2.upd H b (.dK (poolK c a r l s sd t))) N := q_dpU (by rfl) (show (7 : Nat) ≤ 1000 by decide) q
theorem vCells : valV (poolK c a r l s sd t) (.inr "cells") = some (.ref c) := by rfl
theorem vAt : valV (poolK c a r l s sd t) (.inr "at") = some (.int a) := by rfl
theorem vRest : valV (poolK c a r l s sd t) (.inr "rest") = some (.int r) := by rfl
theorem vLeft : valV (poolK c a r l s sd t) (.inr "left") = some (.int l) := by rfl
theorem vSmall : valV (poolK c a r l s sd t) (.inr "small") = some (.bl s) := by rfl
theorem vSeed : valV (poolK c a r l s sd t) (.inr "seed") = some (.int sd) := by rfl
theorem vTurn : valV (poolK c a r l s sd t) (.inr "turn") = some (.int t) := by rfl
end
/-- the pool stands, all else has grown -/
structure Sd (b : Addr) (G H G' H' : Hp) (o : HO) : Prop where
  gr : Gro (some b) G H G' H'
  gb : G' b = none
  hb : H' b = some o
section
variable {b p l : Addr} {G H G1 H1 G2 H2 : Hp} {o o2 u : HO}
theorem Sd.ne (s : Sd b G H G1 H1 o) (hp : H1 p = none) : b ≠ p := ne_of_none s.hb hp
theorem Sd.nn (s : Sd b G H G1 H1 o) : H1 b ≠ none := by rw [s.hb]; exact fun z => nomatch z
theorem Sd.new (s : Sd b G H G1 H1 o) (hp : H1 p = none) : Sd b G H (L2.upd G1 p u) (L2.upd H1 p u) o :=
  ⟨s.gr.newb hp (s.gr.fresh hp (Ne.symm (s.ne hp))), by rw [upd_ne (s.ne hp)]; exact s.gb, upd_old s.hb hp⟩
theorem Sd.start (eG : Ex G H) (gb : G b = none) (hb : H b = some o) : Sd b G H G H o := ⟨Gro.refl eG, gb, hb⟩
theorem Sd.up (s : Sd b G H G1 H1 o) (e : Ex H1 H2) : Sd b G H G1 H2 o := ⟨s.gr.thenB (Gro.up s.gr.w e).mono s.nn, s.gb, e _ _ s.hb⟩
theorem Sd.gro (s : Sd b G H G1 H1 o) (g : Gro none G1 H1 G2 H2) : Sd b G H G2 H2 o := ⟨s.gr.then_ g s.nn, g.n b s.nn s.gb, g.ex _ _ s.hb⟩
theorem Sd.grob (s : Sd b G H G1 H1 o) (g : Gro (some b) G1 H1 G2 H2) (gb : G2 b = none) (hb : H2 b = some o2) : Sd b G H G2 H2 o2 := ⟨s.gr.thenB g s.nn, gb, hb⟩
theorem Sd.w (s : Sd b G H G1 H1 o) : Ex G1 H1 := s.gr.w
theorem Sd.g (s : Sd b G H G1 H1 o) : Ex G G1 := s.gr.g
/-- a draw -/
theorem Sd.take (s : Sd b G H G1 H1 o) (e : Ex G1 H2) (hb : H2 b = some o2) (k : ∀ x v, x ≠ b → H1 x = some v → H2 x = some v) : Sd b G H G1 H2 o2 :=
  ⟨⟨s.gr.g, e, fun a v z h => k a v (fun y => z (by rw [y])) (s.gr.k a v z h), s.gr.n⟩, s.gb, hb⟩
theorem Sd.cell (s : Sd b G H G1 H1 o) (gl : G1 l = none) (hl : H l = none) (ne : b ≠ l) : Sd b G H G1 (L2.upd H1 l u) o := ⟨s.gr.cell gl hl, s.gb, upd_mu s.hb ne⟩
theorem Sd.knowC (s : Sd b G H G1 H1 o) (gl : G1 l = none) (hl : H l = none) (ne : b ≠ l) (h : H1 l = some u) : Sd b G H (L2.upd G1 l u) H1 o := ⟨s.gr.know gl hl h, by rw [upd_ne ne]; exact s.gb, s.hb⟩
theorem Sd.fresh (s : Sd b G H G1 H1 o) (hp : H1 l = none) : H l = none := s.gr.fresh hp (Ne.symm (s.ne hp))
end
/-! texts of letters -/
theorem q_ixSm {K : PySem.W.Frag} {H : Hp} {Q : VK} {i : Int} {z : Str} (hz : z.length ≤ sizeLine) (h0 : 0 ≤ i) (h1 : i < (z.length : Nat)) (q : ∀ c : Nat, c ∈ z.cps.toList → Q (.str ⟨#[c]⟩) H) : rIx K (.str z) (.int i) H Q := by
  obtain ⟨k, rfl⟩ := Int.eq_ofNat_of_zero_le h0
  have hk : k < z.cps.toList.length := by
    have e : z.cps.toList.length = z.length := by rw [Array.length_toList] <;> rfl
    omega
  exact .inr (.inr ⟨z, k, _, rfl, rfl, hz, atI_nat (List.getElem?_eq_getElem hk), q _ (List.getElem_mem hk)⟩)
theorem sjoin_letters : ∀ ys : List Str, (∀ y ∈ ys, y.cps.toList.all isLetter = true) → (Str.join (Str.ofString "") ys).cps.toList.all isLetter = true
  | [], _ => rfl
  | [x], h => h x (List.mem_cons_self ..)
  | x :: y :: r, h => by
    have ih := sjoin_letters (y :: r) fun z hz => h z (List.mem_cons_of_mem _ hz)
    have hx := h x (List.mem_cons_self ..)
    show ((x.cps ++ (Str.ofString "").cps) ++ (Str.join (Str.ofString "") (y :: r)).cps).toList.all isLetter = true
    rw [Array.toList_append, Array.toList_append, List.all_append, List.all_append, hx, ih]
    decide +kernel
theorem join_letters (ys : List Str) (h : ∀ y ∈ ys, y.cps.toList.all isLetter = true) : (Txt.join (Str.ofString "") ys).cps.toList.all isLetter = true := by
  show (Builtin.Str.glued (Str.ofString "") ys).cps.toList.all isLetter = true
  rw [StrLaws.glued_eq_join]
  exact sjoin_letters ys h
/-- the spare names -/
def othN (i : Nat) : Str := (Str.ofString "qqqqq") ++ (⟨#[97 + i]⟩ : Str)
theorem oth_name : ∀ i, i < 8 → isName (.str (othN i)) = true := by decide +kernel
theorem oth_nodup : ((List.range 8).map othN).Nodup := by decide +kernel
theorem oth_at : ∀ i c : Nat, (Str.ofString "abcdefgh").cps[i]? = some c → i < 8 ∧ c = 97 + i := fun i c h => by
  have hi : i < (Str.ofString "abcdefgh").cps.size := by
    have := Array.getElem?_eq_some_iff.mp h
    exact this.1
  have hi8 : i < 8 := hi
  obtain rfl | rfl | rfl | rfl | rfl | rfl | rfl | rfl : i = 0 ∨ i = 1 ∨ i = 2 ∨ i = 3 ∨ i = 4 ∨ i = 5 ∨ i = 6 ∨ i = 7 := by omega
  all_goals exact ⟨by decide, (Option.some.inj h).symm⟩
theorem holes {α : Type} [BEq α] [LawfulBEq α] : ∀ (as zs : List α), as.Nodup → (∀ a ∈ as, a ∈ zs) → as.length ≤ zs.length
  | [], _, _, _ => Nat.zero_le _
  | a :: as, zs, hn, h => by
    have hz := h a (List.mem_cons_self ..)
    obtain ⟨h1, h2⟩ := List.nodup_cons.mp hn
    have ih := holes as (zs.erase a) h2 fun x hx => (List.mem_erase_of_ne (fun e => h1 (by rw [← e]; exact hx))).mpr (h x (List.mem_cons_of_mem _ hx))
    rw [List.length_erase_of_mem hz] at ih
    have := List.length_pos_of_mem hz
    rw [List.length_cons]
    omega
theorem any_strs (zs : List Str) (z : Str) : ((zs.map PyData.str).any fun x => PyData.eqv x (.str z)) = decide (z ∈ zs) := by
  induction zs with
  | nil => simp
  | cons y r ih =>
    rw [List.map_cons, List.any_cons, ih, eqv_strs]
    by_cases e : y = z
    · subst e
      simp
    · have e2 : (y == z) = false := by simpa using e
      rw [e2, Bool.false_or]
      have e3 : ¬ z = y := fun h => e h.symm
      simp [e3]
theorem strs_rps {K : PySem.W.Frag} {G : Hp} : ∀ zs : List Str, Rps K G (zs.map V.str) (zs.map PyData.str)
  | [] => .nil
  | z :: r => .cons (.str z) (strs_rps r)
section
variable {K : PySem.W.Frag} {σ : L2.St} {G H : Hp} {Q : VK} {g : TG} {tt : TT} {te : TE} {ws : List Nat}
/-- .. over a text that is written -/
theorem q_lcC {R : Nat → V → Hp → Prop} {z : Str} (x : Ex G H) (hn : z.length ≤ 1000000) (mono : ∀ i y G1 G2, Ex G1 G2 → R i y G1 → R i y G2)
    (body : ∀ i c G' H', z.cps[i]? = some c → Gro none G H G' H' → LcBody g tt te ws σ (R i) (.str ⟨#[c]⟩) G' H') (done : LcDone z.length R G H Q) : tLc (iSeqA K (tC (.str z))) g tt te ws σ H Q := by
  refine .inr (.inr ⟨z, rfl, fun D hD => ?_⟩)
  refine lc_it (walk_str (z := z)) (LcIn R G H D) (LcIn.first x hD) (fun _ _ _ _ => True.intro) ?_ ?_
  · rintro i u H1 H' hi hI ⟨rfl, hu⟩
    obtain ⟨c, hc, rfl⟩ := hu
    exact LcIn.turn mono hD hi hn hI fun G' gr => body i c G' _ hc gr
  · rintro H' ⟨G', acc, gr, gD, hacc, hl, old⟩
    exact done D acc G' H' gr hacc gD hD hl old
end
theorem names_shp {zs : List Str} (hl : zs.length ≤ 1000) (h : ∀ z ∈ zs, isName (.str z) = true) : Shp (.list (zs.map PyData.str)) := by
  refine shp_list (okD_le (n := 1) (okD_tup (by rw [List.length_map]; omega) fun d hd => ?_) (by decide))
  obtain ⟨z, hz, rfl⟩ := List.mem_map.mp hd
  exact name_ok (h z hz)
theorem spare {zs : List Str} (h : zs.length < 8) : ∃ i, i < 8 ∧ othN i ∉ zs := by
  apply Classical.byContradiction
  intro hn
  have h2 : ∀ a ∈ (List.range 8).map othN, a ∈ zs := fun a ha => by
    obtain ⟨i, hi, rfl⟩ := List.mem_map.mp ha
    apply Classical.byContradiction
    intro hz
    exact hn ⟨i, List.mem_range.mp hi, hz⟩
  have := holes _ zs oth_nodup h2
  rw [List.length_map, List.length_range] at this
  omega
end Cw

set_option maxHeartbeats 4000000
/-! calls in an except clause of defs that raise nothing there and walk nothing: no word is asked of the exception that is handled but that it stands -/
namespace Cw
open PySem PySem.Spec PyProof.Rows L2
section
variable {P : Program} {w : World} {K : PySem.W.Frag} {mg : Str → Option Value} {base : Heap}
abbrev Pn := Addr × Obj
structure FnQ (P : Program) (w : World) (K : PySem.W.Frag) (mg : Str → Option Value) (base : Heap) (k : Nat) (f : Addr) (fd : FuncData) (ps : List Str) (sp : Sp) : Prop where
  many : ∀ vs H Q E, sp vs H Q E → vs.length = ps.length
  does : ∀ (pin : Pn) (A : Around) (o : List Env) (s : Shared) (H : Hp) (g : Args) (us : List Value) (vs : List V) (Q : VK) (E : XK),
    sp vs H Q E → Vals vs us → BindsTo s fd g (ps.zip us) → Env0 P w K mg base A o s H → L2H.PinOk o H s pin → L2H.RoomH k A →
    codeAny (model P w) A (.call (.ref f) g) (CR CX0 o P w H s Q E) s
/-- the context of its body -/
abbrev cxQ (P : Program) (w : World) (K : PySem.W.Frag) (mg : Str → Option Value) (base : Heap) (N : List Str) (x : Str) (sc : Scope) (f : Addr) (cd : Value) (A : Around) (o : List Env) (s : Shared) (H : Hp) (E : XK) (pin : Pn) : Cx :=
  L2H.cxH CX0 P w K mg base N x sc f cd A o s H E pin
theorem fnq_of {x : Str} {st : Stmt} {f : Addr} {fd : FuncData} {N ps : List Str} {k : Nat} {sp : Sp} (F : FnP K x st f fd) (S : FnScope N ps (defScope st))
    (many : ∀ vs H Q E, sp vs H Q E → vs.length = ps.length)
    (body : ∀ (pin : Pn) (cd : Value) (A : Around) (o : List Env) (s : Shared) (H : Hp) (vs : List V) (Q : VK) (E : XK), sp vs H Q E → L2H.RoomH k (A.deeper (envOfC x (defScope st) s.heap.objs.size f cd)) →
      ∃ t σ, PSs (cxQ P w K mg base N x (defScope st) f cd A o s H E pin).nox (defBody st) t ∧ L2.start N vs = σ ∧ t { nx := fun _ H' => Q .non H', rt := Q } σ H) :
    FnQ P w K mg base (k + 1) f fd ps sp := by
  obtain ⟨oc, od, dV, kV, doc, pm, an, cd, ct, osl, rfl, lk, hcd, _, _⟩ := F.ex
  refine ⟨many, ?_⟩
  intro pin A o s H g us vs Q E want rel bnd env pok room
  have back : ∀ b u, base.get? b = some u → s.heap.get? b = some u := fun b u z => (env.bs b u z).1
  have inK := env.mod.kin.keeps back
  have nl := env.mod.nolimit.keeps back
  obtain ⟨t, σ, deriv, rfl, holds⟩ := body pin cd A o s H vs Q E want (room.deeper _)
  apply codeAny_call_function room.depth (inK _ _ lk) rfl S.co S.gen rfl (PySem.W.codeRec_of inK hcd)
  apply bnd
  apply wpAny_newFunctionEnv_cells S.kind
  · intro y hy
    have yp := S.par y.1 (List.of_mem_zip (show (y.1, y.2) ∈ ps.zip us from hy)).1
    exact yp.imp id fun c => ⟨c, PySem.W.cellsFrom_some _ _ _ (.inl c)⟩
  intro env1 rfl' s1 made
  subst rfl'
  refine ⟨nl.keeps made.toInCall.keep, codeAny_func ?_⟩
  have inv := L2H.inv_startH (CX := CX0) (E := E) S pok env (many _ _ _ _ want) rel made
  have ran := (PSs.nox deriv).run [] s1 (L2.start N vs) H _ inv holds
  refine wpAny_mono ran ?_ fun _ _ bad => bad
  intro fl s2 h
  cases fl with
  | next =>
    obtain ⟨σ2, H2, J, q⟩ := h
    exact ⟨.non, H2, J.os, J.bare, J.base, J.hok, rfl, q⟩
  | ret u =>
    obtain ⟨v, σ2, H2, J, rv, q⟩ := h
    exact ⟨v, H2, J.os, J.bare, J.base, J.hok, rv, q⟩
  | brk => exact absurd h.choose_spec.choose_spec.2 id
  | cont => exact absurd h.choose_spec.choose_spec.2 id
def CalQ (P : Program) (w : World) (K : PySem.W.Frag) (mg : Str → Option Value) (base : Heap) (k : Nat) (x : Str) (ps : List Str) (sp : Sp) : Prop :=
  ∃ f fd, FnQ P w K mg base k f fd ps sp ∧ mg x = some (.ref f) ∧ PySem.W.keepIn K (.ref f) = true ∧ Binds K fd ps []
theorem calq_of {x : Str} {st : Stmt} {f : Addr} {fd : FuncData} {N ps : List Str} {k : Nat} {sp : Sp} (F : FnP K x st f fd) (hm : mg x = some (.ref f)) (S : FnScope N ps (defScope st))
    (hb : ∀ (dV kV doc pm : Value) (an : Option Addr) (cdv ct : Value) (us : List Value), us.length = ps.length → bindArgs (PySem.W.fnOf x x (defArgs st) (defBody st) (defScope st) .none kV doc pm an cdv ct) ⟨us, []⟩ = pure (ps.zip us))
    (many : ∀ vs H Q E, sp vs H Q E → vs.length = ps.length)
    (body : ∀ (pin : Pn) (cd : Value) (A : Around) (o : List Env) (s : Shared) (H : Hp) (vs : List V) (Q : VK) (E : XK), sp vs H Q E → L2H.RoomH k (A.deeper (envOfC x (defScope st) s.heap.objs.size f cd)) →
      ∃ t σ, PSs (cxQ P w K mg base N x (defScope st) f cd A o s H E pin).nox (defBody st) t ∧ L2.start N vs = σ ∧ t { nx := fun _ H' => Q .non H', rt := Q } σ H) :
    CalQ P w K mg base (k + 1) x ps sp := by
  refine ⟨f, fd, fnq_of F S many body, hm, F.kp, ?_⟩
  obtain ⟨oc, od, dV, kV, doc, pm, an, cdv, ct, osl, rfl, lk, hcd, hd, hk⟩ := F.ex
  rcases hd with ⟨_, rfl⟩ | ⟨z, _⟩
  · exact .all fun us hu => hb .none kV doc pm an cdv ct us hu
  · exact absurd rfl z
end
/-- a statement that is never come to -/
theorem ps_no {X : Cx} {st : Stmt} : PS X st (fun _ _ _ => False) := ⟨fun _ _ _ _ _ _ h => h.elim⟩
theorem hu64Q {X : Cx} {k : Nat} (r : L2H.RoomH k X.A) : X.A.units + 64 < cLine := by have := r.un; omega
section
variable {X : Cx} {k : Nat} {x : Str} {ps : List Str} {sp : Sp} {q pos : Pos} {e : Expr} {es : List Expr} {t : TA}
theorem pe_callQ {pin : Pn} (C : CalQ X.prog X.w X.K X.mg X.base k x ps sp) (room : L2H.RoomH k X.A) (there : pin ∈ X.pn) (hg : Gl X x) (ha : PA X (e :: es) t)
    (hdb : (x == ("__debug__" : Str)) = false := by decide) (he : starEach (e :: es) X.env = (false, eval e X.env) :: starEach es X.env := by rfl) (hpl : (backTo pos (starEach es X.env)).any (·.1) = false := by rfl) :
    PE X (.Call (.Name x q) (e :: es) [] pos) (tCall sp [] E0 t) := by
  obtain ⟨f, fd, F, hm, hk, hb⟩ := C
  constructor
  intro pins s σ H Q I h
  apply wpAny_Call_Name_kw (ld_glob I hg hm ?_ hdb)
  refine PySem.W.callWith_K (h₀ := X.base) I.ok.mod.kin hk (thn (ha.run pos pins s σ H _ I h) ?_) he hpl
  rintro us s1 ⟨vs, H1, I1, rel, want⟩
  refine ⟨I1.kIn, ?_⟩
  rw [List.append_nil] at want
  have ln : us.length = ps.length := (rel.length).symm.trans (F.many _ _ _ _ want)
  have bnd := hb s1 us I1.kIn (by simpa using ln)
  rw [List.append_nil] at bnd
  have pp := I1.pin pin (List.mem_append_left _ there)
  have pok : L2H.PinOk X.stack H1 s1 pin := by
    refine ⟨pp.1, pp.2.1, fun hm => ?_, pp.2.2.2.2⟩
    cases List.mem_cons.mp (I1.stkSub pin.1 hm) with
    | inl z => exact pp.2.2.1 z
    | inr z => exact pp.2.2.2.1 z
  refine wpAny_call (codeAny_mono (F.does pin X.A X.stack s1 H1 ⟨us, []⟩ us vs Q _ want rel bnd I1.env0 pok room) ?_)
  intro r s2 hq
  match r, hq with
  | .error e, hq => exact False.elim hq
  | .ok (.ret u), hq => exact I1.after hq
  | .ok .next, hq => exact hq.elim
  | .ok .brk, hq => exact hq.elim
  | .ok .cont, hq => exact hq.elim
end
end Cw

set_option maxHeartbeats 4000000
/-! enumerate over a tuple; zip over lists and tuples -/
namespace Cw
open PySem PySem.Spec PyProof.Rows L2
theorem meets_enum1 {v : Value} {o : Obj} {H : Heap → Prop} (B : Begins v o H) :
    Meets (Builtin.«enumerate.__new__» ⟨[.type "enumerate", v], []⟩) (fun _ R s => H s.heap ∧
      R (.ok (.ret (.ref (s.heap.push o).objs.size))) { s with heap := (s.heap.push o).push { cls := .type "enumerate", data := .fields #[.none, .bool false, .ref s.heap.objs.size, rawInt 0, .none, .none] } }) :=
  .of_wp fun prog w A R s h => by
    obtain ⟨hp, g, d, tk, os⟩ := s
    obtain ⟨h1, h⟩ := h
    have hsub := sub_enumerate
    have q1 : ∀ {A' : Around} {E : Value → Shared → Prop} {Q : Value → Shared → Prop}, Q (.ref hp.objs.size) ⟨hp.push o, g, d, tk, os⟩ → wpAny (model prog w) A' (pyIter v) Q E ⟨hp, g, d, tk, os⟩ :=
      fun q => B.iter prog w _ _ ⟨hp, g, d, tk, os⟩ _ h1 q
    wp_walk using q1
    refine wpAny_stack_any fun st => wpAny_pure ?_
    split
    · rename_i c _ _ _ _ _
      cases (c == Value.type "enumerate")
      · wp_walk using q1
        exact ⟨_, rfl, h⟩
      · wp_walk using q1
        exact ⟨_, rfl, h⟩
    · wp_walk using q1
      exact ⟨_, rfl, h⟩
section
variable {prog : Program} {w : World} {A : Around} {E : Value → Shared → Prop} {s : Shared}
theorem enum_begins1 {v : Value} {o : Obj} {H : Heap → Prop} {Q : Value → Shared → Prop} (B : Begins v o H) (h1 : H s.heap)
    (h : ∀ h', IsEnum h' (s.heap.objs.size + 1) s.heap.objs.size 0 .none → h'.get? s.heap.objs.size = some o → h'.objs.size = s.heap.objs.size + 2 →
      (∀ b o, s.heap.get? b = some o → h'.get? b = some o) → Q (.ref (s.heap.objs.size + 1)) { s with heap := h' }) :
    wpAny (model prog w) A (call (.type "enumerate") [v]) Q E s := by
  refine callType_new F.called_enumerate (by decide) (F.typeCall_enumerate_1 _) (F.newCall_enumerate_1 _) (fun obj => F.args_object_init_2 obj _) F.entry_enumerate_new
    (meets_enum1 B) ⟨h1, ?_⟩
  have hz : (s.heap.push o).objs.size = s.heap.objs.size + 1 := Heap.size_push ..
  show _ ∧ _
  rw [hz]
  have he : IsEnum ((s.heap.push o).push { cls := .type "enumerate", data := .fields #[.none, .bool false, .ref s.heap.objs.size, rawInt 0, .none, .none] }) (s.heap.objs.size + 1) s.heap.objs.size 0 .none := by
    have := Heap.get?_push_size (s.heap.push o) (o := { cls := .type "enumerate", data := .fields #[.none, .bool false, .ref s.heap.objs.size, rawInt 0, .none, .none] }) rfl
    rw [hz] at this; exact this
  exact ⟨⟨_, he, rfl⟩, h _ he (Heap.get?_push_of_some _ (Heap.get?_push_size _ B.free)) (by rw [Heap.size_push, hz]) fun b o x => Heap.get?_push_of_some _ (Heap.get?_push_of_some _ x)⟩
end
section
variable {prog : Program} {w : World} {A : Around} {E : Value → Shared → Prop} {s : Shared}
theorem wpAny_enum_stop {e it t : Addr} {i : Nat} {c : Int} {items : Array Value} {old : Value} {Q : Option Value → Shared → Prop} (hh : A.handled = none) (he : IsEnum s.heap e it c old) (hit : s.heap.IsTupleIter it t i) (ht : s.heap.IsTuple t items) (hx : items[i]? = none)
    (hQ : ∀ h', Heap.ExtBut it s.heap h' → Q none { s with heap := h' }) : wpAny (model prog w) A (pyNext (.ref e)) Q E s := by
  have hT : s.TypeIs (.ref e) "enumerate" := ⟨_, he, rfl⟩
  unfold pyNext
  refine wpAny_bind (wpAny_attempt (wpAny_callSpecial?_slot (name := Str.ofString "__next__") hT F.slot_enumerate_next
    (wpAny_call_entry F.slot_enumerate_next hT F.entry_enumerate_next ?_ (F.args_enumerate_next_1 _))))
  show wpAny _ _ (field (.ref e) 2 >>= _) _ _ _
  refine wpAny_bind (wpAny_field he rfl (x := .ref it) rfl ?_)
  refine wpAny_bind (wpAny_nextOf_tuple_end (show A.in1.handled = none from hh) hit ht hx fun h' x he' hx' => ?_)
  obtain ⟨o, ho, hc⟩ := hx'
  refine wpAny_bind (wpAny_isInstance (T := "StopIteration") (b := true) ⟨o, ho, hc⟩ isSubtype_stop ?_)
  exact wpAny_pure (hQ _ he')
end
/-- the tuple at a, each item in a new pair -/
def IteT (K : PySem.W.Frag) (a : Addr) : It :=
  ⟨fun i H => ∃ (xs : List V) (x : V), SqT K H a xs ∧ xs[i]? = some x, fun i H v H' => ∃ T x, v = .ref T ∧ H T = none ∧ H' = upd H T (.tup [.int (i : Nat), x]) ∧ ∀ xs, SqT K H a xs → xs[i]? = some x, fun i H => ∃ xs : List V, SqT K H a xs ∧ xs.length ≤ i⟩
theorem turn_enumT {P : Program} {w : World} {K : PySem.W.Frag} {elts : List Expr} {kk : Nat} {tpos : Pos} (a e it : Addr) :
    Turn P w K (.Tuple elts kk tpos) (IteT K a) [e, it] e (fun i h => (∃ old, IsEnum h e it ((i : Nat) : Int) old) ∧ h.IsTupleIter it a i ∧ e ≠ it) where
  mem := by simp
  obj := fun i h st b hb => by
    obtain ⟨⟨old, he⟩, ⟨o, ho, hc, hd⟩, _⟩ := st
    have e' : b = e ∨ b = it := by simpa using hb
    rcases e' with z | z
    · rw [z]; exact ⟨_, he, fun v q => nomatch q⟩
    · rw [z]; exact ⟨o, ho, fun v q => by rw [hd] at q; cases q⟩
  keep := fun i h h' st k => let ⟨⟨old, he⟩, hi, hne⟩ := st; ⟨⟨old, k e (by simp) _ he⟩, hi.at fun o q => k it (by simp) o q, hne⟩
  item := by
    intro X hP hw hK hc i pins s σ H E I hf st hg
    subst hP hw hK
    obtain ⟨⟨old, he⟩, hit, hne⟩ := st
    obtain ⟨xs, x, hq, hx⟩ := hg
    obtain ⟨its, rv, p0, hz⟩ := I.tuple hq
    have p : s.heap.IsTuple a its.toArray := p0
    obtain ⟨u, hu, ru⟩ := rv.get hx
    have hel : e < s.heap.objs.size := Heap.lt_size he
    have hil : it < s.heap.objs.size := by obtain ⟨_, q, _⟩ := hit; exact Heap.lt_size q
    have nea : e ≠ a := fun z => by
      obtain ⟨o, ho, hcl, _⟩ := id p
      rw [← z, he] at ho
      cases ho
      exact absurd (Value.type.inj hcl) (by decide)
    have nia : a ≠ it := fun z => by
      obtain ⟨o, ho, hcl, _⟩ := id p
      obtain ⟨o2, ho2, hcl2, _⟩ := id hit
      rw [z, ho2] at ho
      cases ho
      rw [hcl2] at hcl
      exact absurd (Value.type.inj hcl) (by decide)
    have hui : its.toArray[i]? = some u := by simpa using hu
    refine wpAny_pyNext_enum_itemC (fp := [it, a]) (Draws.tuple (A := X.A.in1) (show X.A.in1.handled = none from I.ok.hd hc) it a nia its.toArray) he ⟨hit, p⟩ (by obtain ⟨h1, _⟩ := Array.getElem?_eq_some_iff.mp hui; exact h1) hne (by simp [hne, nea]) fun x' h' tk hPx ho hst' hT hsz hk => ?_
    obtain rfl : x' = u := by
      have h2 : its.toArray[i]? = some x' := hPx
      rw [hui] at h2
      exact (Option.some.inj h2).symm
    refine ⟨_, rfl, wpAny_letOwnedTupleGo_enum (s := { s with heap := h', toks := tk + 1 }) ho fun h'' he' sb => ?_⟩
    have hT2 : h''.get? s.heap.objs.size = some { cls := .type "tuple", data := .seq #[.int i tk, x'] } := (sb.2 _ (Nat.ne_of_gt hel)).trans hT
    have new : ObjOk X.prog X.w (upd H s.heap.objs.size (.tup [.int (i : Nat), x])) h'' s.heap.objs.size (.tup [.int (i : Nat), x]) :=
      ⟨by show 2 ≤ sizeLine; decide, [.int i tk, x'], .cons ⟨_, rfl⟩ (.cons ru .nil), ⟨_, hT2, rfl, _, rfl⟩⟩
    have I1 : Inv X pins σ (upd H s.heap.objs.size (.tup [.int (i : Nat), x])) { s with heap := h'', toks := tk + 1 } :=
      I.turnedNew (ch := [e, it]) (fun b ob hb q => (sb.2 b (fun z => hb (by simp [z]))).trans (hk b ob (fun z => hb (by simp [z])) (fun z => hb (by simp [z])) q)) hf (Nat.le_refl _) new
    refine ⟨.ref s.heap.objs.size, _, I1, rfl, ⟨_, x, rfl, I.hok.fresh (Nat.le_refl _), rfl, fun ys hy => by rw [I.tuple_inj hy hq]; exact hx⟩, ⟨⟨x', ?_⟩, hst'.1.at fun o q => (sb.2 it (Ne.symm hne)).trans q, hne⟩, fun b hb => ?_⟩
    · have e1 : ((i + 1 : Nat) : Int) = (i : Int) + 1 := by omega
      rw [e1]; exact he'
    · have hb' : b < s.heap.objs.size := by
        have e' : b = e ∨ b = it := by simpa using hb
        rcases e' with z | z
        · rw [z]; exact hel
        · rw [z]; exact hil
      rw [upd_ne (Nat.ne_of_lt hb')]
      exact (hf b hb).1
  done := by
    intro X hP hw hK hc i pins s σ H E I hf st hg
    subst hP hw hK
    obtain ⟨⟨old, he⟩, hit, hne⟩ := st
    obtain ⟨xs, hq, hx⟩ := hg
    obtain ⟨its, rv, p0, hz⟩ := I.tuple hq
    have p : s.heap.IsTuple a its.toArray := p0
    obtain ⟨f0, f1, f2, f3, f4, f5⟩ := hf it (by simp)
    have hl := rv.length
    refine wpAny_enum_stop (it := it) (t := a) (I.ok.hd hc) he hit p (by simp; omega) fun h' eb => ⟨rfl, I.turned (t' := s.toks) (fun b o hb q => eb b o hb q) f0 f1 f3 f4 f5⟩
  self := fun A i s Q E st h => let ⟨⟨_, he⟩, _⟩ := st; wpAny_pyIter_enum he h
def iEnumT (K : PySem.W.Frag) (ta : TA) : TI := fun σ H R => ta σ H fun vs H1 => ∃ a xs, vs = [.ref a] ∧ SqT K H1 a xs ∧ R (IteT K a) H1
theorem pi_enumT {X : Cx} {e : Expr} {ta : TA} {p pos tpos : Pos} {elts : List Expr} {kk : Nat} (hg : Gl X "enumerate") (hm : X.mg "enumerate" = none) (ha : PA X [e] ta) (hs : starEach [e] X.env = [(false, eval e X.env)] := by rfl) :
    PI X (.Tuple elts kk tpos) (.Call (.Name "enumerate" p) [e] [] pos) (iEnumT X.K ta) := by
  refine ⟨fun pins s σ H R I h => ?_⟩
  refine Call_ (ld_blt I hg hm boot_enumerate (PyProof.Rows.callWith_type1 (thn (ha.run pos pins s σ H _ I h) fun us s1 ⟨vs, H1, I1, r1, q1⟩ => ?_) hs rfl))
  obtain ⟨a, xs, ex, hq, q⟩ := q1
  subst ex
  cases r1 with
  | cons r rr =>
    cases rr
    cases r
    obtain ⟨its, rv, p', hz⟩ := I1.tuple hq
    refine enum_begins1 (begins_tuple a its.toArray) (show s1.heap.IsTuple a its.toArray from p') fun h' he hit hsz hk => wpAny_pyIter_enum he ?_
    have I2 : Inv X pins σ H1 { s1 with heap := h' } := I1.kept (t' := s1.toks) hk
    refine ⟨s1.heap.objs.size + 1, [s1.heap.objs.size + 1, s1.heap.objs.size], _, _, H1, rfl, I2, turn_enumT a (s1.heap.objs.size + 1) s1.heap.objs.size, ⟨⟨.none, he⟩, ⟨_, hit, rfl, rfl⟩, Nat.succ_ne_self _⟩, fun b hb => ?_, q⟩
    have e' : b = s1.heap.objs.size + 1 ∨ b = s1.heap.objs.size := by simpa using hb
    have hle : s1.heap.objs.size ≤ b := by
      rcases e' with z | z
      · rw [z]; exact Nat.le_add_right _ _
      · rw [z]; exact Nat.le_refl _
    exact I1.fpOk hle (I1.hok.fresh hle)
/-- over a list or a tuple -/
def iEnumA (K : PySem.W.Frag) (ta : TA) : TI := fun σ H R => iEnum K ta σ H R ∨ iEnumT K ta σ H R
theorem pi_enumK {X : Cx} {K : PySem.W.Frag} {e : Expr} {ta : TA} {p pos tpos : Pos} {elts : List Expr} {kk : Nat} (hK : X.K = K) (hg : Gl X "enumerate") (hm : X.mg "enumerate" = none) (ha : PA X [e] ta) (hs : starEach [e] X.env = [(false, eval e X.env)] := by rfl) :
    PI X (.Tuple elts kk tpos) (.Call (.Name "enumerate" p) [e] [] pos) (iEnumA K ta) := by
  subst hK
  exact pi_or (pi_enum hg hm ha hs) (pi_enumT hg hm ha hs)
section
variable {K : PySem.W.Frag} {a : Addr} {xs : List V}
theorem walk_enumT : Walk (IteT K a) xs.length (fun H => SqT K H a xs) (YPair (fun i => some (.int (i : Nat))) (fun i => xs[i]?)) := by
  refine ⟨fun i _ hi q => ⟨xs, xs[i], q, by simp [hi]⟩, fun _ q => ⟨xs, q, Nat.le_refl _⟩, fun i H v H' _ q y => ?_⟩
  obtain ⟨T, x, h1, h2, h3, h4⟩ := y
  exact ⟨T, .int (i : Nat), x, h1, h2, h3, rfl, h4 xs q⟩
end
/-- isinstance(e, c), e what a suite holds, of an own class with a dict -/
def rIsS (K : PySem.W.Frag) (a : Addr) (cls : Value) (d : Option Addr) : List V → Hp → VK → Prop := fun xs H Q => ∃ (C dd fI : Addr) (fld : Str) (fs : List (Str × V)) (c : V) (u : Value) (b : Bool), xs = [.ref a, c] ∧ cls = .ref C ∧ d = some dd ∧ H dd = some (.xd fs) ∧ XcC K C fI fld ∧ ClsV c u ∧ PySem.W.kitOne K (.ref C) u = some b ∧ Q (.bl b) H
theorem call_isSK {X : Cx} {K : PySem.W.Frag} {a : Addr} {oe : Obj} {cls : Value} {d : Option Addr} {pn : List (Addr × Obj)} (hK : X.K = K) (hz : Zc cls d oe) (hf : ∃ vs, oe.data = .fields vs) : CallR (X.suite a ((a, oe) :: pn)) (.builtin "isinstance") (rIsS K a cls d) := by
  subst hK
  intro pins s σ H xs us Q I r h
  obtain ⟨C, dd, fI, fld, fs, c, u, b, rfl, rfl, rfl, ed, T, k, e, q⟩ := h
  obtain ⟨u1, u2, rfl, r1, r2⟩ := vals2 r
  cases (show u1 = Value.ref a from r1)
  have e2 := k.eq r2
  subst e2
  obtain ⟨ha, _⟩ := I.pin (a, oe) (List.mem_append_left _ List.mem_cons_self)
  obtain ⟨vs, hd⟩ := hf
  obtain ⟨mA, hns, hr⟩ := (show ObjOk X.prog X.w H s.heap dd (.xd fs) from I.hok dd _ ed)
  obtain ⟨od, ho, hl⟩ := lookIn_ns hns
  have J : PySem.W.InstAt s.heap a oe C (some od) := ⟨ha, hz.1, by unfold PySem.W.notCls; rw [hd] <;> rfl, by rw [hz.2]; exact ho⟩
  exact PySem.W.kia_one (PySem.W.kitx_exc (gt := none) T.cls T.ga T.gg T.exC T.cA T.sp T.tk T.mo) I.kIn J e (fun z => nomatch z) fun tk => ⟨.bl b, H, I.tok tk, rfl, q⟩
theorem q_isS {K : PySem.W.Frag} {a C dd fI : Addr} {fld : Str} {fs : List (Str × V)} {c : V} {u : Value} {b : Bool} {H : Hp} {Q : VK} (ed : H dd = some (.xd fs)) (T : XcC K C fI fld) (k : ClsV c u) (e : PySem.W.kitOne K (.ref C) u = some b) (q : Q (.bl b) H) : rIsS K a (.ref C) (some dd) [.ref a, c] H Q :=
  ⟨C, dd, fI, fld, fs, c, u, b, rfl, rfl, rfl, ed, T, k, e, q⟩
theorem q_brk {D : Ends} {σ : L2.St} {H : Hp} (h : D.bk σ H) : tBreak D σ H := h
/-! for i, x in enumerate(row) -/
section
variable {K : PySem.W.Frag} {σ : L2.St} {G H : Hp} {v : V} {ds : List PyData} {g : TG} {t : TS} {D : Ends} {ta : TA} {i1 i2 : Nat}
def kEnL (K : PySem.W.Frag) (g : TG) (t : TS) (D : Ends) (σ : L2.St) : List V → Hp → Prop := fun vs H1 => ∃ a xs, vs = [.ref a] ∧ SqL K H1 a xs ∧ ∃ W : Nat → Nat → L2.St → Hp → Prop, (∃ m, W 0 m σ H1) ∧ ∀ i m σ H, W i m σ H →
      ((Ite K a).stop i H ∧ D.nx σ H) ∨ ((Ite K a).go i H ∧ ∃ N : L2.St → Hp → Prop, (∀ σ' H', N σ' H' → ∃ m', m' < m ∧ W (i + 1) m' σ' H') ∧ ∀ x H', (Ite K a).yld i H x H' → g x σ H' fun σ2 H2 => t { D with nx := N, ct := N, bk := D.nx } σ2 H2)
def kEnT (K : PySem.W.Frag) (g : TG) (t : TS) (D : Ends) (σ : L2.St) : List V → Hp → Prop := fun vs H1 => ∃ a xs, vs = [.ref a] ∧ SqT K H1 a xs ∧ ∃ W : Nat → Nat → L2.St → Hp → Prop, (∃ m, W 0 m σ H1) ∧ ∀ i m σ H, W i m σ H →
      ((IteT K a).stop i H ∧ D.nx σ H) ∨ ((IteT K a).go i H ∧ ∃ N : L2.St → Hp → Prop, (∀ σ' H', N σ' H' → ∃ m', m' < m ∧ W (i + 1) m' σ' H') ∧ ∀ x H', (IteT K a).yld i H x H' → g x σ H' fun σ2 H2 => t { D with nx := N, ct := N, bk := D.nx } σ2 H2)
def kEn (b : Bool) (K : PySem.W.Frag) (g : TG) (t : TS) (D : Ends) (σ : L2.St) : List V → Hp → Prop := if b then kEnT K g t D σ else kEnL K g t D σ
theorem q_forE (b : Bool) (h : ta σ H (kEn b K g t D σ)) : tFor (iEnumA K ta) g t D σ H := by
  cases b with
  | false => exact .inl h
  | true => exact .inr h
/-- the pair is read into two slots -/
theorem q_en2 {b : Bool} (hv : Rp K G v (sqD b ds)) (x : Ex G H) (Pv : Nat → L2.St → Hp → Prop) (h0 : Pv 0 σ H) (hx : ∀ i σ' H', Pv i σ' H' → Ex G H')
    (hs : ∀ i d u σ' H' T, ds[i]? = some d → Pv i σ' H' → Rp K G u d → H' T = none → t { D with nx := Pv (i + 1), ct := Pv (i + 1), bk := D.nx } ((σ'.set i1 (some (.int (i : Nat)))).set i2 (some u)) (L2.upd H' T (.tup [.int (i : Nat), u])))
    (hd : ∀ σ' H', Pv ds.length σ' H' → D.nx σ' H') : kEn b K (gSeqA K 2 (gCons (gName i1) (gCons (gName i2) gNil))) t D σ [v] H := by
  cases b with
  | false =>
    obtain ⟨a, vs, rfl, hS, hr⟩ := rp_lst hv
    refine ⟨a, vs, rfl, .inl (.inl (x _ _ hS)), for_it (walk_enum (K := K) (a := a) (xs := vs)) Pv h0 (fun i σ' H' _ p => .inl (.inl (hx i σ' H' p _ _ hS))) (fun i z σ' H' H2 hi p y => ?_) (fun σ' H' p => hd σ' H' (by rw [← hr.len]; exact p))⟩
    obtain ⟨T, x1, u, rfl, hT, rfl, e1, e2⟩ := y
    cases e1
    obtain ⟨d, hd', ru⟩ := hr.at e2
    exact .inl ⟨T, [.int (i : Nat), u], rfl, .inl (.inl upd_same), rfl, _, _, rfl, _, _, rfl, rfl, hs i d u σ' H' T hd' p ru hT⟩
  | true =>
    obtain ⟨a, vs, rfl, hS, hr⟩ := rp_tup hv
    refine ⟨a, vs, rfl, x.st hS, for_it (walk_enumT (K := K) (a := a) (xs := vs)) Pv h0 (fun i σ' H' _ p => (hx i σ' H' p).st hS) (fun i z σ' H' H2 hi p y => ?_) (fun σ' H' p => hd σ' H' (by rw [← hr.len]; exact p))⟩
    obtain ⟨T, x1, u, rfl, hT, rfl, e1, e2⟩ := y
    cases e1
    obtain ⟨d, hd', ru⟩ := hr.at e2
    exact .inl ⟨T, [.int (i : Nat), u], rfl, .inl (.inl upd_same), rfl, _, _, rfl, _, _, rfl, rfl, hs i d u σ' H' T hd' p ru hT⟩
end
end Cw

set_option maxHeartbeats 4000000
local macro_rules | `(tactic| walk_at "ex") => `(tactic| first
  | assumption
  | exact Cw.Ex.refl _
  | ((refine Cw.Ex.trans ?_ (Cw.Ex.new (by assumption))); walk_at "ex")
  | ((refine Cw.Ex.mut ?_ (by assumption)); walk_at "ex")
  | ((refine Cw.Ex.trans ?_ (by assumption)); walk_at "ex"))
local macro_rules | `(tactic| walk_at "at") => `(tactic| first
  | assumption
  | exact L2.upd_same
  | ((refine Cw.upd_old ?_ (by assumption)); walk_at "at")
  | ((refine Cw.upd_mu ?_ (by assumption)); walk_at "at")
  | ((refine Cw.Ex.ap (by assumption) ?_); walk_at "at"))
local macro_rules | `(tactic| walk_at "rp") => `(tactic| first
  | assumption
  | exact Cw.Rp.int _ | exact Cw.Rp.str _ | exact Cw.Rp.bl _ | exact Cw.Rp.non
  | ((refine Cw.Rp.mono (by assumption) ?_); walk_at "rp"))
local macro_rules | `(tactic| walk_at "gro") => `(tactic| first
  | assumption
  | (refine Cw.Gro.up ?_ ?_ <;> walk_at "ex"))
local macro_rules | `(tactic| walk_at "nt") => `(tactic| first
  | assumption
  | ((refine Cw.NetAt.mono (by assumption) ?_); walk_at "nt"))
local macro_rules | `(tactic| walk_at "lay") => `(tactic| first
  | exact Cw.Lay.nil
  | (apply Cw.Lay.snoc <;> first | assumption | walk_at "lay"))
local macro_rules | `(tactic| walk_at "mem") => `(tactic| first
  | exact List.Mem.head _
  | ((refine List.Mem.tail _ ?_); walk_at "mem"))
local macro_rules | `(tactic| walk_at "rpn") => `(tactic| first
  | exact Cw.Rp.int _ | exact Cw.Rp.str _ | exact Cw.Rp.bl _ | exact Cw.Rp.non
  | assumption
  | (refine Cw.Rp.mono (by assumption) (by assumption))
  | (refine Cw.Rp.tupK (by assumption) (by walk_at "mem") ?_; walk_at "rps")
  | (refine Cw.Rp.lstK (by assumption) (by walk_at "mem") ?_; walk_at "rps"))
local macro_rules | `(tactic| walk_at "rps") => `(tactic| first
  | exact Cw.Rps.nil
  | (refine Cw.Rps.cons (by walk_at "rpn") ?_; walk_at "rps"))
local macro_rules | `(tactic| walk_at "yes") => `(tactic| first | exact rfl | assumption | omega | decide)
local macro_rules | `(tactic| walk_at "no") => `(tactic| first | assumption | omega | (intro h; cases h; done) | decide)
local macro_rules | `(tactic| walk_at "qS") => `(tactic| with_reducible first
  | refine Cw.q_c ?_ | refine Cw.q_op ?_ | refine Cw.q_nil ?_ | refine Cw.q_cons ?_ | refine Cw.q_call ?_ | refine Cw.q_cb ?_ | refine Cw.q_seq ?_ | refine Cw.q_asg ?_ | refine Cw.q_ifs ?_ | refine Cw.q_test ?_ | refine Cw.q_B ?_ | refine Cw.q_ret ?_
  | refine Cw.q_next ?_ | refine Cw.q_drop ?_ | refine Cw.q_not ?_ | refine Cw.q_and ?_ | refine Cw.q_or ?_ | refine Cw.q_andV ?_ | refine Cw.q_orV ?_ | refine Cw.q_notV ?_ | refine Cw.q_ife ?_
  | refine Cw.q_tup ?_ | refine Cw.q_lst ?_ | refine Cw.q_un ?_ | refine Cw.q_sl ?_ | refine Cw.q_no ?_ | refine Cw.q_part ?_ | refine Cw.q_forR1 ?_ | refine Cw.q_lcR1 ?_ | refine Cw.q_name ?_ | refine Cw.q_asgG ?_ | refine Cw.q_sub ?_ | refine Cw.q_retN ?_ | refine Cw.q_gcons ?_ | refine Cw.q_gnil ?_ | refine Cw.q_m1 ?_ | refine Cw.q_kw ?_ | refine Cw.q_chain ?_ | refine Cw.q_yes ?_ | refine Cw.q_fld ?_ | refine Cw.q_sfld ?_ | refine Cw.q_mkS ?_ | refine Cw.q_lenSet ?_ | refine Cw.q_bm ?_ | refine Cw.q_bm0 ?_ | refine Cw.q_tryA ?_ | refine Cw.q_callS ?_ | refine Cw.q_raise ?_ | refine Cw.q_xat ?_ | refine Cw.q_as ?_ | refine Cw.q_star ?_ | refine Cw.q_pairs ?_ | refine Cw.q_pairs0 ?_ | refine Cw.q_dget ?_ | refine Cw.q_dput ?_ | refine Cw.q_par3 ?_ | refine Cw.q_par2 ?_ | refine Cw.q_brk ?_)
local macro_rules | `(tactic| walk_at "qX") => `(tactic| with_reducible first
  | refine Cw.q_bl ?_ | refine Cw.q_blI ?_ | refine Cw.q_mkOne ?_ | refine Cw.q_intI ?_ | refine Cw.q_some ?_ | refine Cw.q_three ?_ | refine Cw.q_two ?_)
local macro_rules | `(tactic| walk_at "qO") => `(tactic| with_reducible first
  | refine Cw.q_add ?_ | refine Cw.q_sub2 ?_ | refine Cw.q_neg ?_ | refine Cw.q_int ?_ | refine Cw.q_intB ?_ | refine Cw.q_lt ?_ | refine Cw.q_le ?_ | refine Cw.q_gt ?_ | refine Cw.q_ge ?_
  | refine Cw.q_eqI ?_ | refine Cw.q_neI ?_ | refine Cw.q_eqS ?_ | refine Cw.q_neS ?_ | refine Cw.q_eqB ?_ | refine Cw.q_neB ?_ | refine Cw.q_isN ?_ | refine Cw.q_isntN ?_ | refine Cw.q_isB ?_)
local macro_rules | `(tactic| walk_at "q1") => `(tactic| first
  | walk_at "qS"
  | ((with_reducible show L2.tVar _ _ _ _); (refine Cw.q_var (by exact rfl) ?_))
  | ((with_reducible show Exists _); walk_at "qX")
  | ((with_reducible show L2.tXf _ _ _ _ _ _ _ _ _); (refine Cw.q_xfV (by exact rfl) (by first | exact L2.upd_same | assumption) Cw.lk1 ?_))
  | ((with_reducible show if _ = true then _ else _); first
      | (with_reducible refine Cw.q_ift ?_) | (with_reducible refine Cw.q_iff ?_)
      | ((with_reducible show if decide _ = true then _ else _); first | (refine Cw.q_ifdT (by walk_at "yes") ?_) | (refine Cw.q_ifdF (by walk_at "no") ?_))
      | ((with_reducible show if (!decide _) = true then _ else _); first | (refine Cw.q_ifndF (by walk_at "yes") ?_) | (refine Cw.q_ifndT (by walk_at "no") ?_))
      | (refine (Cw.q_ifTr (by exact rfl) ?_)) | (refine (Cw.q_ifFa (by exact rfl) ?_)))
  | walk_at "qO"
  | ((with_reducible show Cw.rDGet (L2.V.ref _) (L2.V.str _) (L2.upd _ _ _) _); first | refine Cw.q_dgU Cw.vCells ?_ | refine Cw.q_dgU Cw.vAt ?_ | refine Cw.q_dgU Cw.vRest ?_ | refine Cw.q_dgU Cw.vLeft ?_ | refine Cw.q_dgU Cw.vSmall ?_ | refine Cw.q_dgU Cw.vSeed ?_ | refine Cw.q_dgU Cw.vTurn ?_)
  | ((with_reducible show Cw.rDPut (L2.V.ref _) (L2.V.str _) _ (L2.upd _ _ _) _); first | refine Cw.q_puAt ?_ | refine Cw.q_puRest ?_ | refine Cw.q_puLeft ?_ | refine Cw.q_puSmall ?_ | refine Cw.q_puTurn ?_)
  | ((with_reducible show L2.rIx _ (L2.V.ref _) (L2.V.int _) (L2.upd _ _ _) _); (refine Cw.q_ixU (by exact rfl) ?_))
  | ((with_reducible show L2.rIx _ (L2.V.ref _) (L2.V.int _) _ _); (refine Cw.q_ixC (by walk_at "at") (by exact rfl) ?_))
  | ((with_reducible show Cw.rXat _ _ (L2.V.ref _) _ _); (refine Cw.q_xatF (by walk_at "at") (by walk_at "at") (by assumption) ?_))
  | ((with_reducible show Cw.rFld _ _ (L2.V.ref _) _ _); first
      | (refine Cw.q_fldP (by assumption) (by walk_at "nt") (by walk_at "ex") ?_; intro v hv)
      | (refine Cw.q_fldC (by assumption) (by walk_at "nt") (by walk_at "ex") ?_; intro v hv)
      | (refine Cw.q_fldR (by assumption) (by walk_at "nt") (by walk_at "ex") ?_; intro v hv))
  | ((with_reducible show L2.rSetL (L2.V.ref _) (L2.V.int _) _ (L2.upd _ _ _) _); (refine Cw.q_setU (by exact rfl) ?_))
  | ((with_reducible show L2.rI _ _ (L2.V.int _) (L2.V.int _) _ _); first
      | refine Cw.q_mod (by first | decide | assumption | omega) ?_
      | refine Cw.q_fdiv (by first | decide | (constructor <;> first | assumption | omega)) ?_
      | refine Cw.q_pow (by exact ⟨by decide, by decide, by decide⟩) ?_)
  | ((with_reducible show Cw.rMulB _ (L2.V.int _) (L2.V.int _) _ _); (refine Cw.q_mulI (by first | (left; decide) | (right; decide) | (left; constructor <;> omega) | (right; constructor <;> omega)) ?_))
  | ((with_reducible show List.length _ ≤ PySem.sizeLine ∧ _); (refine And.intro (Cw.line_of (by exact rfl)) ?_); intro p hp)
  | ((with_reducible show Cw.rAddA _ (L2.V.ref _) (L2.V.ref _) _ _); (refine Cw.q_cat (by walk_at "at") (by walk_at "at") (Cw.line_of (by exact rfl)) ?_); intro p hp)
  | ((with_reducible show L2.rAppend (L2.V.ref _) [_] _ _); (refine Cw.q_append (by walk_at "at") (by first | exact Cw.line_lt2 (by exact rfl) | exact Cw.line_lt (by omega)) ?_))
  | ((with_reducible show L2.tyV _ "list" (L2.V.ref _) _ ∧ _); (refine Cw.q_tyL (by walk_at "at") ?_))
  | ((with_reducible show L2.rIsi _ [_, L2.V.ty _] _ _); first
      | (with_reducible first | refine Cw.q_iNonInt ?_ | refine Cw.q_iNonBool ?_ | refine Cw.q_iNonStr ?_ | refine Cw.q_iNonLst ?_ | refine Cw.q_iNonTup ?_ | refine Cw.q_iBlInt ?_ | refine Cw.q_iBlBool ?_ | refine Cw.q_iBlStr ?_ | refine Cw.q_iBlLst ?_ | refine Cw.q_iBlTup ?_ | refine Cw.q_iInInt ?_ | refine Cw.q_iInBool ?_ | refine Cw.q_iInStr ?_ | refine Cw.q_iInLst ?_ | refine Cw.q_iInTup ?_ | refine Cw.q_iStInt ?_ | refine Cw.q_iStBool ?_ | refine Cw.q_iStStr ?_ | refine Cw.q_iStLst ?_ | refine Cw.q_iStTup ?_)
      | refine Cw.q_isiInt (by walk_at "rp") (by walk_at "ex") ?_
      | refine Cw.q_isiBool (by walk_at "rp") (by walk_at "ex") ?_
      | refine Cw.q_isiStr (by walk_at "rp") (by walk_at "ex") ?_
      | refine Cw.q_isiLst (by walk_at "rp") (by walk_at "ex") ?_
      | refine Cw.q_isiTup (by walk_at "rp") (by walk_at "ex") ?_)
  | ((with_reducible show L2.rIsiT _ [_, L2.V.ref _] _ _); first
      | refine Cw.q_isiTL (by walk_at "rp") (by walk_at "ex") (by first | assumption | exact L2.upd_same) ?_
      | refine Cw.q_isiLT (by walk_at "rp") (by walk_at "ex") (by first | assumption | exact L2.upd_same) ?_)
  | ((with_reducible show Cw.rLenA _ [L2.V.str _] _ _); (refine Cw.q_lenS (Nat.le_trans (Cw.shp_str (by assumption)) (by decide)) ?_))
  | ((with_reducible show Cw.rLenA _ [_] _ _); first
      | refine Cw.q_lenRT (by walk_at "rp") (by walk_at "ex") ?_
      | refine Cw.q_lenRL (by walk_at "rp") (by walk_at "ex") ?_))
local macro_rules | `(tactic| walk_at "q") => `(tactic| repeat walk_at "q1")
namespace Cw
open PySem PySem.Spec PyProof.Rows L2
section
variable {P : Program} {w : World} {K : PySem.W.Frag} {mg : Str → Option Value} {base : Heap}
def sp_unlike (K : PySem.W.Frag) : Sp := fun vs H Q _ => ∃ (l : Addr) (ys : List Str), vs = [.ref l] ∧ H l = some (.lst (ys.map V.str)) ∧ ys.length ≤ 4000 ∧ Q (.bl (decide ys.Nodup)) H
def spN (K : PySem.W.Frag) (t : List PyData → PyData → Bool) : Sp := fun vs H Q _ => ∃ (G : Hp) (v u : V) (d e : PyData) (ps : List PyData), vs = [v, u] ∧ Ex G H ∧ Rp K G v d ∧ Seq d ps ∧ Shp d ∧ Rp K G u e ∧ Shp e ∧ ∀ H', Ex H H' → Q (.bl (t ps e)) H'
theorem shp_kinds : Shp (.tuple kindsD)   := by
  show okD 60 _ = true
  decide +kernel
def sp_act (K : PySem.W.Frag) : Sp := fun vs H Q _ => ∃ (G : Hp) (v u : V) (p : Int) (d e : PyData) (cs : List PyData) (n : Nat), vs = [v, .int p, u] ∧ Ex G H ∧ Rp K G v d ∧ Seq d cs ∧ Shp d ∧ cs.all (isChan n) = true ∧ Rp K G u e ∧ Shp e ∧ ∀ H', Ex H H' → Q (.bl (isAct cs (.int p) e)) H'
theorem shp_word {z : Str} (h : okD 60 (.str z) = true) : Shp (.str z) := h
def sp_rule (K : PySem.W.Frag) (t : List PyData → List PyData → PyData → Bool) : Sp := fun vs H Q _ => ∃ (G : Hp) (v1 v2 u : V) (d1 d2 e : PyData) (ps cs : List PyData) (n : Nat), vs = [v1, v2, u] ∧ Ex G H ∧ Rp K G v1 d1 ∧ Seq d1 ps ∧ Shp d1 ∧ ps.all isProcess = true ∧ Rp K G v2 d2 ∧ Seq d2 cs ∧ Shp d2 ∧ cs.all (isChan n) = true ∧ Rp K G u e ∧ Shp e ∧
  ∀ H', Ex H H' → Q (.bl (t ps cs e)) H'
def sp_start (K : PySem.W.Frag) (C : Addr) : Sp := fun vs H Q _ => ∃ (G : Hp) (a : Addr) (N : NetD), vs = [.ref a] ∧ Ex G H ∧ NetAt K C G a N ∧ N.p.length ≤ 1000 ∧ N.c.length ≤ 1000 ∧ ∀ G2 H2 p, Gro none G H G2 H2 → Rp K G2 (.ref p) (startD N) → Q (.ref p) H2
def spNet (K : PySem.W.Frag) (C : Addr) (Rv : NetD → PyData → PyData) : Sp := fun vs H Q _ => ∃ (G : Hp) (a : Addr) (N : NetD) (v : V) (d : PyData), vs = [.ref a, v] ∧ Ex G H ∧ NetAt K C G a N ∧ NOk N ∧ Rp K G v d ∧ Shp d ∧ ∀ H' u, Ex H H' → Rp K G u (Rv N d) → Q u H'
def spNetB (K : PySem.W.Frag) (C : Addr) (Rv : NetD → PyData → Bool) : Sp := fun vs H Q _ => ∃ (G : Hp) (a : Addr) (N : NetD) (v : V) (d : PyData), vs = [.ref a, v] ∧ Ex G H ∧ NetAt K C G a N ∧ NOk N ∧ Rp K G v d ∧ Shp d ∧ ∀ H', Ex H H' → Q (.bl (Rv N d)) H'
theorem wordD_shp {N : NetD} (ok : NOk N) (d : PyData) : Shp (wordD N d) := by
  unfold wordD
  by_cases h : isBelow N.r.length d = true
  · obtain ⟨i, rfl, i0, i1⟩ := below_int h
    obtain ⟨k, rfl⟩ := Int.eq_ofNat_of_zero_le i0
    have hk : k < N.r.length := by omega
    obtain ⟨p, st, wd, as, t, er⟩ := ok.r _ (List.getElem_mem hk)
    have s1 := shp_mem (.inr rfl) ok.sr _ (List.getElem_mem hk)
    rw [er] at s1
    have s2 := shp_mem (.inr rfl) s1 (.tuple (.str wd :: as)) (by simp)
    have s3 := shp_mem (.inr rfl) s2 (.str wd) (by simp)
    rw [if_pos h]
    show Shp (atD (atD (N.r.getD k .none) 2) 0)
    rw [List.getD_eq_getElem?_getD, List.getElem?_eq_getElem hk]
    show Shp (atD (atD N.r[k] 2) 0)
    rw [er]
    exact s3
  · rw [if_neg h]
    exact shp_none
theorem shp_pair : Shp (.tuple [.str "do", .str "send"]) := by
  show okD 60 _ = true
  decide +kernel
theorem shp_lossy : Shp (.tuple [.str "order lossy", .str "loose lossy"]) := by
  show okD 60 _ = true
  decide +kernel
def sp_owner (K : PySem.W.Frag) (C CS : Addr) : Sp := fun vs H Q E => ∃ (G : Hp) (a : Addr) (N : NetD) (v : V) (d : PyData), vs = [.ref a, v] ∧ Ex G H ∧ NetAt K C G a N ∧ NOk N ∧ Rp K G v d ∧ Shp d ∧
  (isDeedD N d = true → ∀ H' u, Ex H H' → Rp K G u (ownerD N d) → Q u H') ∧ (isDeedD N d = false → ∀ H1 dd, Ex H H1 → H1 dd = none → E (.ref CS) (some dd) (L2.upd H1 dd (.xd [("at", .int 0)])))
def sp_changed (K : PySem.W.Frag) : Sp := fun vs H Q _ => ∃ (G : Hp) (v u : V) (k : Nat) (ds : List PyData) (e : PyData), vs = [v, .int (k : Int), u] ∧ Ex G H ∧ Rp K G v (.tuple ds) ∧ k < ds.length ∧ ds.length ≤ 1000 ∧ Rp K G u e ∧
  ∀ G2 H2 p, Gro none G H G2 H2 → Rp K G2 (.ref p) (.tuple (ds.set k e)) → Q (.ref p) H2
def sp_without (K : PySem.W.Frag) : Sp := fun vs H Q _ => ∃ (G : Hp) (v : V) (c k : Nat) (ps : List (List (Nat × Nat))) (r : List (Nat × Nat)), vs = [v, .int (c : Int), .int (k : Int)] ∧ Ex G H ∧ Rp K G v (.tuple (ps.map (rowMD true))) ∧ ps[c]? = some r ∧ r.length ≤ 1000 ∧ ps.length ≤ 1000 ∧
  ∀ G2 H2 p, Gro none G H G2 H2 → Rp K G2 (.ref p) (.tuple ((ps.set c (r.filter fun m => decide (m.1 ≠ k))).map (rowMD true))) → Q (.ref p) H2
def sp_hand (K : PySem.W.Frag) (C : Addr) : Sp := fun vs H Q _ => ∃ (G : Hp) (a : Addr) (M : MN) (v : V) (b : Bool) (W : Wd) (c B : Nat), vs = [.ref a, v, .int (c : Int)] ∧ Ex G H ∧ NetAt K C G a M.N ∧ MNOk M ∧ Rp K G v (W.d b) ∧ WdOk M W B ∧ c < M.C.length ∧
  ∀ G2 H2 u, Gro none G H G2 H2 → Rp K G2 u (rowMD b (hand M W c)) → Q u H2
def sp_prows (K : PySem.W.Frag) : Sp := fun vs H Q _ => ∃ (G : Hp) (v : V) (b : Bool) (W : Wd), vs = [v] ∧ Ex G H ∧ Rp K G v (W.d b) ∧ W.p.length ≤ 1000 ∧ (∀ r ∈ W.p, r.length ≤ 1000) ∧ ∀ G2 H2 p, Gro none G H G2 H2 → Rp K G2 (.ref p) (.tuple (W.p.map (rowMD true))) → Q (.ref p) H2
def sp_losses (K : PySem.W.Frag) (C : Addr) : Sp := fun vs H Q _ => ∃ (G : Hp) (a : Addr) (M : MN) (v : V) (b : Bool) (W : Wd) (c B : Nat), vs = [.ref a, v, .int (c : Int)] ∧ Ex G H ∧ NetAt K C G a M.N ∧ MNOk M ∧ Rp K G v (W.d b) ∧ WdOk M W B ∧ B ≤ 1000 ∧ c < M.C.length ∧
  ∀ G2 H2 p, Gro none G H G2 H2 → Rp K G2 (.ref p) (.list ((lossesM M W c).map Deed.d)) → Q (.ref p) H2
def sp_rdeeds (K : PySem.W.Frag) (C : Addr) : Sp := fun vs H Q _ => ∃ (G : Hp) (a : Addr) (M : MN) (v : V) (b : Bool) (W : Wd) (r B : Nat), vs = [.ref a, v, .int (r : Int)] ∧ Ex G H ∧ NetAt K C G a M.N ∧ MNOk M ∧ Rp K G v (W.d b) ∧ WdOk M W B ∧ B ≤ 1000 ∧ r < M.R.length ∧
  ∀ G2 H2 p, Gro none G H G2 H2 → Rp K G2 (.ref p) (.list ((ruleM M W r).map Deed.d)) → Q (.ref p) H2
theorem shp_tup {d : PyData} {ds : List PyData} (hs : Seq d ds) (h : Shp d) : Shp (.tuple ds) := by
  rcases hs with rfl | rfl
  · have h1 := shp_len (.inl rfl) h
    unfold Shp at h
    rw [okD] at h
    have h2 := List.all_eq_true.mp (bA h).2
    unfold Shp
    rw [okD, decide_eq_true h1, Bool.true_and, List.all_eq_true]
    exact h2
  · exact h
theorem okD_two (x : Str) (hx : okD 0 (.str x) = true) (r : Nat) : okD 1 (.tuple [.str x, nD r]) = true := by
  refine okD_tup (by simp) fun d hd => ?_
  simp only [List.mem_cons, List.mem_nil_iff, or_false] at hd
  rcases hd with rfl | rfl
  · exact hx
  · exact okD_int _ _
theorem okD_thr (x : Str) (hx : okD 0 (.str x) = true) (r k : Nat) : okD 1 (.tuple [.str x, nD r, nD k]) = true := by
  refine okD_tup (by simp) fun d hd => ?_
  simp only [List.mem_cons, List.mem_nil_iff, or_false] at hd
  rcases hd with rfl | rfl | rfl
  · exact hx
  · exact okD_int _ _
  · exact okD_int _ _
theorem okD_deed (D : Deed) : okD 1 D.d = true := by
  cases D with
  | act r => exact okD_two _ (by decide +kernel) _
  | take r k => exact okD_thr _ (by decide +kernel) _ _
  | lose r k => exact okD_thr _ (by decide +kernel) _ _
theorem shp_deeds (l : List Deed) (h : l.length ≤ 100000) : Shp (.list (l.map Deed.d)) := by
  refine shp_list (okD_le (n := 2) (okD_tup (by rw [List.length_map]; exact h) fun d hd => ?_) (by decide))
  obtain ⟨D, _, rfl⟩ := List.mem_map.mp hd
  exact okD_deed D
/-- whether the value is a deed that can be done -/
def canD (M : MN) (W : Wd) (d : PyData) : Bool := isDeedD M.N d && (if PyData.eqv (atD d 0) (.str "lose") then ((lossesM M W (natD (atD d 1))).map Deed.d).any fun z => PyData.eqv z (.tuple (itemsD d)) else ((ruleM M W (natD (atD d 1))).map Deed.d).any fun z => PyData.eqv z (.tuple (itemsD d)))
def sp_can (K : PySem.W.Frag) (C : Addr) : Sp := fun vs H Q _ => ∃ (G : Hp) (a : Addr) (M : MN) (v : V) (b : Bool) (W : Wd) (B : Nat) (u : V) (d : PyData), vs = [.ref a, v, u] ∧ Ex G H ∧ NetAt K C G a M.N ∧ MNOk M ∧ NOk M.N ∧ Rp K G v (W.d b) ∧ WdOk M W B ∧ B ≤ 1000 ∧ Rp K G u d ∧ Shp d ∧
  ∀ H', Ex H H' → Q (.bl (canD M W d)) H'
theorem deed_form2 {M : MN} {d : PyData} (h : isDeedD M.N d = true) : (∃ r : Nat, r < M.R.length ∧ Seq d [.str "act", nD r] ∧ ∀ c k, (M.R[r]?.map Rul.a) ≠ some (.take c k)) ∨ (∃ r k c t : Nat, r < M.R.length ∧ Seq d [.str "take", nD r, nD k] ∧ (M.R[r]?.map Rul.a) = some (.take c t)) ∨ (∃ c k : Nat, c < M.C.length ∧ Seq d [.str "lose", nD c, nD k]) := by
  have hd := h
  have wd : ∀ {r : Nat} (hr : r < M.R.length), wordD M.N (nD r) = atD (M.R[r].a.d) 0 := fun {r} hr => by
    have hr2 : r < M.N.r.length := by show r < (M.R.map Rul.d).length; rw [List.length_map]; exact hr
    rw [wordD, show isBelow M.N.r.length (nD r) = true from below_of (by omega) (by omega), if_pos rfl]
    show atD (atD (M.N.r.getD r .none) 2) 0 = _
    rw [List.getD_eq_getElem?_getD]
    show atD (atD (((M.R.map Rul.d)[r]?).getD .none) 2) 0 = _
    rw [List.getElem?_map, List.getElem?_eq_getElem hr] <;> rfl
  unfold isDeedD at h
  by_cases r2 : isRow 2 d = true
  · rw [if_pos r2] at h
    obtain ⟨x0, x1, hs⟩ := row2 r2
    rcases deed_is hd with ⟨y0, k, r, hk, hs2, _⟩ | ⟨y0, k, r, hk, hs2, hl⟩
    · have hk' : k < M.R.length := by simpa [MN.N] using hk
      have e := (Seq.items hs2).symm.trans (Seq.items hs)
      cases e
      rw [show atD d 0 = x0 from Seq.at hs 0, show atD d 1 = .int k from Seq.at hs 1] at h
      obtain ⟨h1, h2⟩ := bA h
      obtain rfl := eqv_str h1
      refine .inl ⟨k, hk', hs, fun c t z => ?_⟩
      rw [List.getElem?_eq_getElem hk'] at z
      have z2 : M.R[k].a = .take c t := Option.some.inj z
      rw [show wordD M.N (.int (k : Int)) = _ from wd hk', z2] at h2
      revert h2
      show ([PyData.str "do", .str "send"].any fun k => PyData.eqv k (.str "take")) = true → False
      decide +kernel
    · have e := (Seq.items hs2).symm.trans (Seq.items hs)
      cases e
      rw [show atD d 0 = x0 from Seq.at hs 0] at h
      obtain ⟨h1, h2⟩ := bA h
      obtain rfl := eqv_str h1
      exact absurd hl (by decide +kernel)
  · rw [if_neg r2] at h
    by_cases z : (!isRow 3 d || !isNum (atD d 2)) = true
    · rw [if_pos z] at h
      cases h
    · rw [if_neg z] at h
      have r3 : isRow 3 d = true := by
        cases y : isRow 3 d with
        | true => rfl
        | false => simp [y] at z
      obtain ⟨x0, x1, x2, hs⟩ := row3 r3
      have n2 : isNum x2 = true := by
        rw [r3, show atD d 2 = x2 from Seq.at hs 2] at z
        simpa using z
      obtain ⟨m, rfl⟩ : ∃ m : Nat, x2 = nD m := by
        cases x2 with
        | int i =>
          obtain ⟨m, rfl⟩ := Int.eq_ofNat_of_zero_le (of_decide_eq_true n2)
          exact ⟨m, rfl⟩
        | _ => cases n2
      rw [show atD d 0 = x0 from Seq.at hs 0, show atD d 1 = x1 from Seq.at hs 1] at h
      rcases deed_is hd with ⟨y0, k, r, hk, hs2, hl⟩ | ⟨y0, k, r, hk, hs2, hl⟩
      · have hk' : k < M.R.length := by simpa [MN.N] using hk
        have e := (Seq.items hs2).symm.trans (Seq.items hs)
        cases e
        by_cases t : PyData.eqv x0 (.str "take") = true
        · rw [if_pos t, show wordD M.N (.int (k : Int)) = _ from wd hk'] at h
          obtain rfl := eqv_str t
          generalize ea : M.R[k].a = ac at h
          cases ac with
          | take c t => exact .inr (.inl ⟨k, m, c, t, hk', hs, by rw [List.getElem?_eq_getElem hk']; show some M.R[k].a = _; rw [ea]⟩)
          | do_ => exact absurd h (by show ¬ PyData.eqv (.str "do") (.str "take") = true; decide +kernel)
          | send c t => exact absurd h (by show ¬ PyData.eqv (.str "send") (.str "take") = true; decide +kernel)
        · rw [if_neg t] at h
          rw [(bA h).1] at hl
          cases hl
      · have hk' : k < M.C.length := by simpa [MN.N] using hk
        have e := (Seq.items hs2).symm.trans (Seq.items hs)
        cases e
        obtain rfl := eqv_str hl
        exact .inr (.inr ⟨k, m, hk', hs⟩)
def sp_done (K : PySem.W.Frag) (C CS : Addr) : Sp := fun vs H Q E => ∃ (G : Hp) (a : Addr) (M : MN) (v : V) (b : Bool) (W : Wd) (B : Nat) (u : V) (d : PyData), vs = [.ref a, v, u] ∧ Ex G H ∧ NetAt K C G a M.N ∧ MNOk M ∧ NOk M.N ∧ Rp K G v (W.d b) ∧ WdOk M W B ∧ B ≤ 900 ∧ Rp K G u d ∧ Shp d ∧
  (canD M W d = true → ∀ (D : Deed) G2 H2 p, Seq d D.ps → Gro none G H G2 H2 → Rp K G2 (.ref p) ((stepM M W D).d true) → Q (.ref p) H2) ∧ (canD M W d = false → ∀ H1 dd, Ex H H1 → H1 dd = none → E (.ref CS) (some dd) (L2.upd H1 dd (.xd [("at", .int 0)])))
def sp_mixed : Sp := fun vs H Q _ => ∃ n t m : Int, vs = [.int n, .int t, .int m] ∧ 0 < m ∧ m < 1073741824 ∧ ∀ r : Int, 0 ≤ r → r < m → Q (.int r) H
def PoolD (K : PySem.W.Frag) (G : Hp) (kvs : List (Key × V)) : Prop := ∃ (c : Addr) (a r l : Int) (s : Bool) (sd t : Int) (ns : List Int), kvs = poolK c a r l s sd t ∧ SqL K G c (ns.map V.int) ∧ 0 ≤ a
theorem PoolD.mono {G G' : Hp} {kvs : List (Key × V)} (h : PoolD K G kvs) (e : Ex G G') : PoolD K G' kvs := by
  obtain ⟨c, a, r, l, s, sd, t, ns, e1, hS, h0⟩ := h
  exact ⟨c, a, r, l, s, sd, t, ns, e1, Ex.sl e hS, h0⟩
def sp_take (K : PySem.W.Frag) : Sp := fun vs H Q _ => ∃ (G : Hp) (b : Addr) (many : Int) (kvs : List (Key × V)), vs = [.ref b, .int many] ∧ Ex G H ∧ G b = none ∧ H b = some (.dK kvs) ∧ PoolD K G kvs ∧ (0 < many ∧ many < 1073741824) ∧
  ∀ (r : Int) (kvs' : List (Key × V)) (H' : Hp), 0 ≤ r → r < many → PoolD K G kvs' → Ex G H' → H' b = some (.dK kvs') → (∀ x o, x ≠ b → H x = some o → H' x = some o) → Q (.int r) H'
def sp_pool (K : PySem.W.Frag) : Sp := fun vs H Q _ => ∃ (s : Addr) (ns : List Int), vs = [.ref s] ∧ SqL K H s (ns.map V.int) ∧ ns.length ≤ 1000 ∧
  ∀ (b : Addr) (kvs : List (Key × V)) (G2 H2 : Hp), Ex H G2 → Ex G2 H2 → G2 b = none → H2 b = some (.dK kvs) → PoolD K G2 kvs → Q (.ref b) H2
def sp_dnames (K : PySem.W.Frag) : Sp := fun vs H Q _ => ∃ (G : Hp) (b : Addr) (kvs : List (Key × V)) (m : Nat), vs = [.ref b, .int (m : Int)] ∧ Ex G H ∧ G b = none ∧ H b = some (.dK kvs) ∧ PoolD K G kvs ∧ m ≤ 8 ∧
  ∀ (l : Addr) (zs : List Str) (kvs' : List (Key × V)) (G' H' : Hp), Sd b G H G' H' (.dK kvs') → PoolD K G' kvs' → Rp K G' (.ref l) (.list (zs.map PyData.str)) → zs.length = m → zs.Nodup → (∀ z ∈ zs, isName (.str z) = true) → Q (.ref l) H'
/-- a net as a dict of lists -/
def NetL (K : PySem.W.Frag) (G : Hp) (n : Addr) (M : MN) : Prop := ∃ p c r : Addr, G n = some (.dK [(.inr "processes", .ref p), (.inr "channels", .ref c), (.inr "rules", .ref r)]) ∧ Rp K G (.ref p) (.list M.ps) ∧ Rp K G (.ref c) (.list (M.C.map Chn.d)) ∧ Rp K G (.ref r) (.list (M.R.map Rul.d))
theorem NetL.mono {K : PySem.W.Frag} {G G' : Hp} {n : Addr} {M : MN} (h : NetL K G n M) (e : Ex G G') : NetL K G' n M := by
  obtain ⟨p, c, r, h1, h2, h3, h4⟩ := h
  exact ⟨p, c, r, e _ _ h1, h2.mono e, h3.mono e, h4.mono e⟩
theorem q_nlP {K : PySem.W.Frag} {G H : Hp} {Q : VK} {n : Addr} {M : MN} (h : NetL K G n M) (e : Ex G H) (q : ∀ p, Rp K G (.ref p) (.list M.ps) → Q (.ref p) H) : rDGet (.ref n) (.str "processes") H Q := by
  obtain ⟨p, c, r, h1, h2, h3, h4⟩ := h
  exact q_dgG h1 e (by rfl) (q p h2)
theorem q_nlC {K : PySem.W.Frag} {G H : Hp} {Q : VK} {n : Addr} {M : MN} (h : NetL K G n M) (e : Ex G H) (q : ∀ p, Rp K G (.ref p) (.list (M.C.map Chn.d)) → Q (.ref p) H) : rDGet (.ref n) (.str "channels") H Q := by
  obtain ⟨p, c, r, h1, h2, h3, h4⟩ := h
  exact q_dgG h1 e (by rfl) (q c h3)
theorem q_nlR {K : PySem.W.Frag} {G H : Hp} {Q : VK} {n : Addr} {M : MN} (h : NetL K G n M) (e : Ex G H) (q : ∀ p, Rp K G (.ref p) (.list (M.R.map Rul.d)) → Q (.ref p) H) : rDGet (.ref n) (.str "rules") H Q := by
  obtain ⟨p, c, r, h1, h2, h3, h4⟩ := h
  exact q_dgG h1 e (by rfl) (q r h4)
/-- a world as a tuple of lists -/
def rowL (r : List (Nat × Nat)) : PyData := .list (r.map (msgD true))
def Wd.lw (W : Wd) : PyData := .tuple [.list (W.s.map nD), .list (W.n.map nD), .list (W.p.map rowL)]
theorem WdOk.atL {M : MN} {W : Wd} {B c : Nat} (h : WdOk M W B) (hc : c < M.C.length) : atI (W.p.map rowL) (c : Int) = some (rowL (rowM W c)) := by
  refine atI_nat ?_
  rw [List.getElem?_map, h.rowAt hc] <;> rfl
theorem kind_cut {z : Str} (h : z ∈ kindsL) : decide (cutS z none (some 5) = ("order" : Str)) = ordd z ∧ decide (cutS z (some (-5)) none = ("lossy" : Str)) = lossd z := by
  simp only [kindsL, List.mem_cons, List.mem_nil_iff, or_false] at h
  rcases h with rfl | rfl | rfl | rfl <;> decide +kernel

def sp_dstart (K : PySem.W.Frag) : Sp := fun vs H Q _ => ∃ (G : Hp) (n : Addr) (M : MN), vs = [.ref n] ∧ Ex G H ∧ NetL K G n M ∧ MNOk M ∧ ∀ G2 H2 p, Gro none G H G2 H2 → Rp K G2 (.ref p) (startM M).lw → Q (.ref p) H2
theorem map_const {α : Type} (k : PyData) (xs : List α) : xs.map (fun _ => k) = List.replicate xs.length k := by
  induction xs with
  | nil => rfl
  | cons x r ih => rw [List.map_cons, ih] <;> rfl
def sp_told (K : PySem.W.Frag) : Sp := fun vs H Q _ => ∃ (G : Hp) (v : V) (W : Wd), vs = [v] ∧ Ex G H ∧ Rp K G v W.lw ∧ W.p.length ≤ 1000 ∧ ∀ G2 H2 p, Gro none G H G2 H2 → Rp K G2 (.ref p) (W.d true) → Q (.ref p) H2
def sp_first (K : PySem.W.Frag) : Sp := fun vs H Q _ => ∃ (G : Hp) (n : Addr) (M : MN) (x : V) (W : Wd) (B c : Nat), vs = [.ref n, x, .int (c : Int)] ∧ Ex G H ∧ NetL K G n M ∧ MNOk M ∧ Rp K G x W.lw ∧ WdOk M W B ∧ c < M.C.length ∧ ∀ G2 H2 u, Gro none G H G2 H2 → Rp K G2 u (rowL (hand M W c)) → Q u H2
theorem rule_gives {M : MN} {W : Wd} {r : Nat} (hrl : r < M.R.length) : ruleM M W r = if W.s[M.R[r].p]? = some M.R[r].s then (match M.R[r].a with
      | .take c k => takesM M W r c k
      | _ => [.act r]) else [] := by
  unfold ruleM
  rw [List.getElem?_eq_getElem hrl] <;> rfl
theorem one_step {K : PySem.W.Frag} {G H G1 H1 G2 H2 : Hp} {vs zs : List V} {ds es : List PyData} {l al : Addr} (s : Acc l G H G1 H1 vs) (hr : Rps K G1 vs ds) (g : Gro none G1 H1 G2 H2) (hL : G2 al = some (.lst zs)) (hz : Rps K G2 zs es) (hl : ds.length + es.length ≤ 1000000) :
    H2 l = some (.lst vs) ∧ H2 al = some (.lst zs) ∧ vs.length + zs.length ≤ sizeLine ∧ ∀ p, H2 p = none → Acc p G H G2 (L2.upd H2 p (.lst (vs ++ zs))) (vs ++ zs) ∧ Rps K G2 (vs ++ zs) (ds ++ es) :=
  ⟨(s.gro g).hl, g.w _ _ hL, by rw [hr.len, hz.len]; exact Nat.le_trans hl (by decide), fun p hp => ⟨Acc.newL (l := l) (s.gr.trans0 g) hp, (hr.mono g.g).app hz⟩⟩
def sp_dposs (K : PySem.W.Frag) : Sp := fun vs H Q _ => ∃ (G : Hp) (n : Addr) (M : MN) (x : V) (W : Wd) (B : Nat), vs = [.ref n, x] ∧ Ex G H ∧ NetL K G n M ∧ MNOk M ∧ Rp K G x W.lw ∧ WdOk M W B ∧ B ≤ 1000 ∧
  ∀ G2 H2 p, Gro none G H G2 H2 → Rp K G2 (.ref p) (.list ((possM M W).map Deed.d)) → Q (.ref p) H2
/-- three lists that change beside what is known -/
structure Tri (a b c : Addr) (G H G' H' : Hp) (xs ys zs : List V) : Prop where
  gr : Gro none G H G' H'
  ga : G' a = none
  gb : G' b = none
  gc : G' c = none
  ha : H' a = some (.lst xs)
  hb : H' b = some (.lst ys)
  hp : H' c = some (.lst zs)
  na : H a = none
  nb : H b = none
  nc : H c = none
  ab : a ≠ b
  ac : a ≠ c
  bc : b ≠ c
section
variable {a b c : Addr} {G H G1 H1 G2 H2 : Hp} {xs ys zs ws : List V}
theorem Tri.gro (t : Tri a b c G H G1 H1 xs ys zs) (g : Gro none G1 H1 G2 H2) : Tri a b c G H G2 H2 xs ys zs :=
  have nn : ∀ {x o}, H1 x = some o → H1 x ≠ none := fun h => by rw [h]; exact fun z => nomatch z
  ⟨t.gr.trans0 g, g.n a (nn t.ha) t.ga, g.n b (nn t.hb) t.gb, g.n c (nn t.hp) t.gc, g.ex _ _ t.ha, g.ex _ _ t.hb, g.ex _ _ t.hp, t.na, t.nb, t.nc, t.ab, t.ac, t.bc⟩
theorem Tri.ww (t : Tri a b c G H G1 H1 xs ys zs) : Ex G1 H1 := t.gr.w
theorem Tri.mutG (t : Tri a b c G H G1 H1 xs ys zs) {x : Addr} {o : HO} (gx : G1 x = none) (nx : H x = none) : Gro none G H G1 (L2.upd H1 x o) :=
  ⟨t.gr.g, Ex.mut t.gr.w gx, fun y u z h => by
    rw [upd_ne (ne_of_none h nx)]
    exact t.gr.k y u z h, t.gr.n⟩
theorem Tri.putA (t : Tri a b c G H G1 H1 xs ys zs) : Tri a b c G H G1 (L2.upd H1 a (.lst ws)) ws ys zs :=
  ⟨t.mutG t.ga t.na, t.ga, t.gb, t.gc, upd_same, upd_mu t.hb (Ne.symm t.ab), upd_mu t.hp (Ne.symm t.ac), t.na, t.nb, t.nc, t.ab, t.ac, t.bc⟩
theorem Tri.putB (t : Tri a b c G H G1 H1 xs ys zs) : Tri a b c G H G1 (L2.upd H1 b (.lst ws)) xs ws zs :=
  ⟨t.mutG t.gb t.nb, t.ga, t.gb, t.gc, upd_mu t.ha t.ab, upd_same, upd_mu t.hp (Ne.symm t.bc), t.na, t.nb, t.nc, t.ab, t.ac, t.bc⟩
theorem Tri.putC (t : Tri a b c G H G1 H1 xs ys zs) : Tri a b c G H G1 (L2.upd H1 c (.lst ws)) xs ys ws :=
  ⟨t.mutG t.gc t.nc, t.ga, t.gb, t.gc, upd_mu t.ha t.ac, upd_mu t.hb t.bc, upd_same, t.na, t.nb, t.nc, t.ab, t.ac, t.bc⟩
/-- all three known -/
theorem Tri.know (t : Tri a b c G H G1 H1 xs ys zs) : ∃ G2, Gro none G H G2 H1 ∧ Ex G1 G2 ∧ G2 a = some (.lst xs) ∧ G2 b = some (.lst ys) ∧ G2 c = some (.lst zs) := by
  have e1 := Acc.know (l := a) ⟨t.gr, t.ga, t.ha, t.na⟩
  have gb1 : L2.upd G1 a (.lst xs) b = none := by rw [upd_ne (Ne.symm t.ab)]; exact t.gb
  have e2 := Acc.know (l := b) ⟨e1, gb1, t.hb, t.nb⟩
  have gc1 : L2.upd (L2.upd G1 a (.lst xs)) b (.lst ys) c = none := by rw [upd_ne (Ne.symm t.bc), upd_ne (Ne.symm t.ac)]; exact t.gc
  have e3 := Acc.know (l := c) ⟨e2, gc1, t.hp, t.nc⟩
  exact ⟨_, e3, (Ex.new t.ga).trans ((Ex.new gb1).trans (Ex.new gc1)), upd_old (upd_old upd_same gb1) gc1, upd_old upd_same gc1, upd_same⟩
end
theorem rps_nats {K : PySem.W.Frag} {G : Hp} : ∀ ns : List Nat, Rps K G (ns.map fun n : Nat => V.int (n : Int)) (ns.map nD)
  | [] => .nil
  | _ :: r => .cons (.int _) (rps_nats r)
theorem nats_of {K : PySem.W.Frag} {G : Hp} : ∀ {ns : List Nat} {vs : List V}, Rps K G vs (ns.map nD) → vs = ns.map fun n : Nat => V.int (n : Int)
  | [], _, h => rps_nil h
  | n :: r, vs, h => by
    obtain ⟨v, us, rfl, h1, h2⟩ := rps_cons h
    rw [rp_nD h1, nats_of h2] <;> rfl
theorem ixOf {n j : Nat} (hj : j < n) : ixN n (j : Int) = some j := by
  unfold ixN
  rw [if_pos (by omega), if_pos (by omega), Int.toNat_natCast]
def sp_ddone (K : PySem.W.Frag) : Sp := fun vs H Q _ => ∃ (G : Hp) (n : Addr) (M : MN) (x y : V) (W : Wd) (B : Nat) (D : Deed), vs = [.ref n, x, y] ∧ Ex G H ∧ NetL K G n M ∧ MNOk M ∧ Rp K G x W.lw ∧ WdOk M W B ∧ B ≤ 900 ∧ Rp K G y D.d ∧ DV M D ∧
  ∀ G2 H2 p, Gro none G H G2 H2 → Rp K G2 (.ref p) (stepM M W D).lw → Q (.ref p) H2
/-- tuples of whole numbers, texts, None, of less than n levels -/
def Tn : Nat → PyData → Prop
  | 0, _ => False
  | n + 1, .tuple ds => ds.length ≤ 1000000 ∧ ∀ d ∈ ds, Tn n d
  | _ + 1, .list _ => False
  | _ + 1, .dict _ => False
  | _ + 1, .bool _ => False
  | _ + 1, .none => True
  | _ + 1, .int _ => True
  | _ + 1, .str _ => True
def sp_same (K : PySem.W.Frag) (n : Nat) : Sp := fun vs H Q _ => ∃ (G : Hp) (v u : V) (d : PyData), vs = [v, u] ∧ Ex G H ∧ Rp K G v d ∧ Rp K G u d ∧ Tn n d ∧ ∀ H', Ex H H' → Q (.bl true) H'
def sp_made (K : PySem.W.Frag) (C : Addr) : Sp := fun vs H Q _ => ∃ (G : Hp) (b n : Addr) (kvs : List (Key × V)) (ps cs rs : List PyData), vs = [.ref b, .ref n] ∧ Ex G H ∧ G b = none ∧ H b = some (.dK kvs) ∧ PoolD K G kvs ∧ NetL K G n (mnOf ps cs rs) ∧ LNet ps cs rs ∧
  ∀ (a : Addr) (kvs' : List (Key × V)) (G' H' : Hp), Sd b G H G' H' (.dK kvs') → PoolD K G' kvs' → NetAt K C G' a ⟨ps, cs, rs⟩ → Q (.ref a) H'
theorem word_rule {M : MN} {r : Nat} (hr : r < M.R.length) : wordD M.N (nD r) = atD (M.R[r].a.d) 0 := by
  have hr2 : r < M.N.r.length := by show r < (M.R.map Rul.d).length; rw [List.length_map]; exact hr
  rw [wordD, show isBelow M.N.r.length (nD r) = true from below_of (by omega) (by omega), if_pos rfl]
  show atD (atD (M.N.r.getD r .none) 2) 0 = _
  rw [List.getD_eq_getElem?_getD]
  show atD (atD (((M.R.map Rul.d)[r]?).getD .none) 2) 0 = _
  rw [List.getElem?_map, List.getElem?_eq_getElem hr] <;> rfl
theorem deed_eqv (D : Deed) : PyData.eqv D.d (.tuple D.ps) = true := by
  cases D <;> simp [Deed.d, Deed.ps, PyData.eqv, PyData.eqvAll, nD]
theorem any_deed {l : List Deed} {D : Deed} (h : D ∈ l) : ((l.map Deed.d).any fun z => PyData.eqv z (.tuple D.ps)) = true := by
  rw [List.any_eq_true]
  exact ⟨D.d, List.mem_map_of_mem h, deed_eqv D⟩
theorem map_at {M : MN} {r : Nat} {a : Act} (h : M.R[r]?.map Rul.a = some a) : ∃ hr : r < M.R.length, M.R[r].a = a := by
  cases e : M.R[r]? with
  | none =>
    rw [e] at h
    cases h
  | some R =>
    obtain ⟨h1, h2⟩ := List.getElem?_eq_some_iff.mp e
    rw [e] at h
    exact ⟨h1, by rw [h2]; exact Option.some.inj h⟩
theorem poss_can {M : MN} {W : Wd} {D : Deed} (h : D ∈ possM M W) : canD M W D.d = true := by
  rcases poss_mem h with ⟨r, hr, h⟩ | ⟨c, hc, h⟩
  · rcases (rule_mem h).2 with ⟨rfl, a, h1, h2⟩ | ⟨k, c, t, rfl, h1⟩
    · obtain ⟨hr, ea⟩ := map_at h1
      have h3 : isDeedD M.N (Deed.act r).d = true := by
        rw [act_deed (d := (Deed.act r).d) (i := (r : Int)) (.inr rfl)]
        rw [show wordD M.N (.int (r : Int)) = _ from word_rule hr, ea]
        cases a with
        | do_ => decide +kernel
        | send c k => show ([PyData.str "do", .str "send"].any fun k => PyData.eqv k (.str "send")) = true; decide +kernel
        | take c k => exact absurd rfl (h2 c k)
      rw [canD, h3, Bool.true_and]
      show (if PyData.eqv (.str "act") (.str "lose") = true then _ else _) = true
      rw [if_neg (by decide +kernel)]
      exact any_deed h
    · obtain ⟨hr, ea⟩ := map_at h1
      have h3 : isDeedD M.N (Deed.take r k).d = true := by
        rw [three_deed (d := (Deed.take r k).d) (w := "take") (i := (r : Int)) (k := (k : Int)) (by omega) (.inr rfl), if_pos (str_eqv _), show wordD M.N (.int (r : Int)) = _ from word_rule hr, ea]
        exact str_eqv _
      rw [canD, h3, Bool.true_and]
      show (if PyData.eqv (.str "take") (.str "lose") = true then _ else _) = true
      rw [if_neg (by decide +kernel)]
      exact any_deed h
  · obtain ⟨k, rfl, hk⟩ := loss_mem h
    have h3 : isDeedD M.N (Deed.lose c k).d = true := by
      rw [three_deed (d := (Deed.lose c k).d) (w := "lose") (i := (c : Int)) (k := (k : Int)) (by omega) (.inr rfl), if_neg (by decide +kernel), str_eqv, Bool.true_and, show isBelow M.N.c.length (.int (c : Int)) = true from below_of (by omega) (by show (c : Int) < ((M.C.map Chn.d).length : Nat); rw [List.length_map]; omega), Bool.true_and]
      have e : atD (chanAt M.N (natD (.int (c : Int)))) 3 = .str (kindM M c) := by
        show atD ((M.C.map Chn.d).getD c .none) 3 = _
        rw [List.getD_eq_getElem?_getD, List.getElem?_map, List.getElem?_eq_getElem hc, kindM_at hc] <;> rfl
      rw [e]
      exact hk
    rw [canD, h3, Bool.true_and]
    show (if PyData.eqv (.str "lose") (.str "lose") = true then _ else _) = true
    rw [if_pos (str_eqv _)]
    exact any_deed h
theorem deed_seq {D D' : Deed} (h : Seq D.d D'.ps) : D' = D := by
  rcases h with h | h
  · cases D <;> cases h
  · exact (deed_inj (PyData.tuple.inj h)).symm
theorem deed_ne (D : Deed) : PyData.eqv D.d (.tuple []) = false := by
  cases D <;> simp [Deed.d, Deed.ps, PyData.eqv, PyData.eqvAll]

def dOf (d : PyData) : Deed := match items d with
  | some [.str _, .int r] => .act r.toNat
  | some [.str w, .int r, .int k] => if w = ("take" : Str) then .take r.toNat k.toNat else .lose r.toNat k.toNat
  | _ => .act 0
theorem dOf_eq {D : Deed} {d : PyData} (h : Seq d D.ps) : dOf d = D := by
  unfold dOf
  rw [Seq.items h]
  cases D with
  | act r => rfl
  | take r k =>
    show (if ("take" : Str) = ("take" : Str) then Deed.take (r : Int).toNat (k : Int).toNat else _) = _
    rw [if_pos rfl] <;> rfl
  | lose r k =>
    show (if ("lose" : Str) = ("take" : Str) then _ else Deed.lose (r : Int).toNat (k : Int).toNat) = _
    rw [if_neg (by decide +kernel)] <;> rfl
def dueW (M : MN) (W : Wd) (d : PyData) : PyData := if canD M W d then .tuple [.str "told", (stepM M W (dOf d)).d true] else .tuple [.str "step", .int 0]
theorem eqv_prim {a x : PyData} (ha : (∃ z, a = .str z) ∨ ∃ i, a = .int i) (h : PyData.eqv a x = true) (hb : dBool x = false) : x = a := by
  rcases ha with ⟨z, rfl⟩ | ⟨i, rfl⟩
  · cases x with
    | str y =>
      rw [PyData.eqv] at h
      rw [eq_of_beq h]
    | _ => rw [PyData.eqv] at h; cases h
  · cases x with
    | int y =>
      rw [eqv_int] at h
      rw [of_decide_eq_true h]
    | bool b => cases hb
    | _ => rw [PyData.eqv] at h; cases h
theorem eqv_all : ∀ {ps ds : List PyData}, (∀ p ∈ ps, (∃ z, p = .str z) ∨ ∃ i, p = .int i) → PyData.eqvAll ps ds = true → (∀ x ∈ ds, dBool x = false) → ds = ps
  | [], [], _, _, _ => rfl
  | [], _ :: _, _, h, _ => by rw [PyData.eqvAll] at h; cases h
  | _ :: _, [], _, h, _ => by rw [PyData.eqvAll] at h; cases h
  | p :: ps, d :: ds, hp, h, hb => by
    rw [PyData.eqvAll] at h
    obtain ⟨h1, h2⟩ := bA h
    rw [eqv_prim (hp p (List.mem_cons_self ..)) h1 (hb d (List.mem_cons_self ..)), eqv_all (fun q m => hp q (List.mem_cons_of_mem _ m)) h2 (fun q m => hb q (List.mem_cons_of_mem _ m))]
theorem ps_prim (D : Deed) : ∀ p ∈ D.ps, (∃ z, p = .str z) ∨ ∃ i, p = .int i := fun p hp => by
  cases D <;> simp only [Deed.ps, List.mem_cons, List.mem_nil_iff, or_false] at hp
  · rcases hp with rfl | rfl
    · exact .inl ⟨_, rfl⟩
    · exact .inr ⟨_, rfl⟩
  · rcases hp with rfl | rfl | rfl
    · exact .inl ⟨_, rfl⟩
    · exact .inr ⟨_, rfl⟩
    · exact .inr ⟨_, rfl⟩
  · rcases hp with rfl | rfl | rfl
    · exact .inl ⟨_, rfl⟩
    · exact .inr ⟨_, rfl⟩
    · exact .inr ⟨_, rfl⟩
theorem eqv_deed {D : Deed} {ds : List PyData} (h : PyData.eqv D.d (.tuple ds) = true) (hp : plainD (.tuple ds) = true) : ds = D.ps := by
  have h2 : PyData.eqvAll D.ps ds = true := by
    rw [Deed.d, PyData.eqv] at h
    exact h
  refine eqv_all (ps_prim D) h2 fun x m => ?_
  unfold plainD at hp
  have := List.all_eq_true.mp hp x m
  simpa using this
theorem can_poss {M : MN} {W : Wd} {d : PyData} (hp : plainD d = true) (h : canD M W d = true) : ∃ D ∈ possM M W, Seq d D.ps := by
  unfold canD at h
  obtain ⟨h1, h2⟩ := bA h
  have key : ∀ {l : List Deed} {D : Deed}, Seq d D.ps → ((l.map Deed.d).any fun z => PyData.eqv z (.tuple (itemsD d))) = true → D ∈ l := fun {l D} hs ha => by
    obtain ⟨z, hz, he⟩ := List.any_eq_true.mp ha
    obtain ⟨D', hD', rfl⟩ := List.mem_map.mp hz
    rw [Seq.it hs] at he
    have e := eqv_deed he (by unfold plainD at hp ⊢; rw [Seq.it hs] at hp; exact hp)
    rw [deed_inj e]
    exact hD'
  have inR : ∀ {r : Nat} {D : Deed}, r < M.R.length → D ∈ ruleM M W r → D ∈ possM M W := fun {r D} hr hD => by
    unfold possM
    exact List.mem_append_left _ (List.mem_flatten.mpr ⟨_, List.mem_map_of_mem (List.mem_range.mpr hr), hD⟩)
  have inC : ∀ {c : Nat} {D : Deed}, c < M.C.length → D ∈ lossesM M W c → D ∈ possM M W := fun {r D} hr hD => by
    unfold possM
    exact List.mem_append_right _ (List.mem_flatten.mpr ⟨_, List.mem_map_of_mem (List.mem_range.mpr hr), hD⟩)
  rcases deed_form2 h1 with ⟨r, hr, hs, _⟩ | ⟨r, k, c, t, hr, hs, _⟩ | ⟨c, k, hc, hs⟩
  · have hs' : Seq d (Deed.act r).ps := hs
    rw [show atD d 0 = .str "act" from Seq.at hs 0, if_neg (by decide +kernel), show atD d 1 = nD r from Seq.at hs 1] at h2
    exact ⟨_, inR hr (key hs' h2), hs'⟩
  · have hs' : Seq d (Deed.take r k).ps := hs
    rw [show atD d 0 = .str "take" from Seq.at hs 0, if_neg (by decide +kernel), show atD d 1 = nD r from Seq.at hs 1] at h2
    exact ⟨_, inR hr (key hs' h2), hs'⟩
  · have hs' : Seq d (Deed.lose c k).ps := hs
    rw [show atD d 0 = .str "lose" from Seq.at hs 0, if_pos (str_eqv _), show atD d 1 = nD c from Seq.at hs 1] at h2
    exact ⟨_, inC hc (key hs' h2), hs'⟩
theorem due_can {M : MN} {W : Wd} {ds : List PyData} (hp : plainD (.tuple ds) = true) : (((possM M W).map Deed.d).any fun z => PyData.eqv z (.tuple ds)) = canD M W (.tuple ds) := by
  cases h : canD M W (.tuple ds) with
  | true =>
    obtain ⟨D, hD, hs⟩ := can_poss hp h
    rcases hs with z | z
    · cases z
    · rw [PyData.tuple.inj z]
      exact any_deed hD
  | false =>
    cases h2 : (((possM M W).map Deed.d).any fun z => PyData.eqv z (.tuple ds)) with
    | false => rfl
    | true =>
      obtain ⟨z, hz, he⟩ := List.any_eq_true.mp h2
      obtain ⟨D, hD, rfl⟩ := List.mem_map.mp hz
      rw [eqv_deed he hp] at h
      rw [show (.tuple D.ps : PyData) = D.d from rfl, poss_can hD] at h
      cases h
theorem can_list (M : MN) (W : Wd) (ds : List PyData) : canD M W (.list ds) = canD M W (.tuple ds) := rfl
theorem can_other {M : MN} {W : Wd} {d : PyData} (h : items d = none) : canD M W d = false := by
  cases e : canD M W d with
  | false => rfl
  | true =>
    unfold canD at e
    rcases deed_form2 (bA e).1 with ⟨r, _, hs, _⟩ | ⟨r, k, c, t, _, hs, _⟩ | ⟨c, k, _, hs⟩
    all_goals
      rw [Seq.items hs] at h
      cases h
theorem due_listW (M : MN) (W : Wd) (ds : List PyData) : dueW M W (.list ds) = dueW M W (.tuple ds) := rfl
theorem sm_due {M : MN} {W : Wd} {B : Nat} (ok : MNOk M) (h : WdOk M W B) (hB : B ≤ 900) (d : PyData) : Sm 6 (dueW M W d) := by
  unfold dueW
  split
  · refine ⟨by simp, fun x hx => ?_⟩
    simp only [List.mem_cons, List.mem_nil_iff, or_false] at hx
    rcases hx with rfl | rfl
    · exact True.intro
    · exact sm_wd ok (h.step _) (by omega)
  · refine ⟨by simp, fun x hx => ?_⟩
    simp only [List.mem_cons, List.mem_nil_iff, or_false] at hx
    rcases hx with rfl | rfl
    · exact True.intro
    · exact True.intro

def Nr (d : PyData) : Prop := Fit d ∧ ∀ ds, d ≠ .list ds
theorem nr_act (x : Str) (hx : okD 0 (.str x) = true) (r : Int) : Nr (.tuple [.str x, .int r]) := ⟨fit_act x hx r, nofun⟩
theorem nr_three (x : Str) (hx : okD 0 (.str x) = true) (r k : Int) : Nr (.tuple [.str x, .int r, .int k]) := ⟨fit_three x hx r k, nofun⟩
theorem nr_app {ds es : List PyData} (h1 : ∀ d ∈ ds, Nr d) (h2 : ∀ d ∈ es, Nr d) : ∀ d ∈ ds ++ es, Nr d := fun d m => (List.mem_append.mp m).elim (h1 d) (h2 d)
def tail1 : List PyData := [.none, .int 0, .str "act", .tuple [], .tuple [.str "act"], .tuple [.str "act", .int 0, .int 0], .tuple [.str "do", .int 0], .tuple [.str "act", .none], .tuple [.str "act", .int (-1)]]
def tail2 : List PyData := [.tuple [.str "take", .int 0], .tuple [.str "take", .int 0, .int (-1)], .tuple [.str "lose", .int 0], .tuple [.str "lose", .int (-1), .int 0], .tuple [.str "lose", .int 0, .int (-1)]]
theorem nr_tail1 : ∀ d ∈ tail1, Nr d := fun d hd => ⟨all_fit (ds := tail1) (by decide +kernel) d hd, fun ds e => by
  subst e
  simp [tail1] at hd⟩
theorem nr_tail2 : ∀ d ∈ tail2, Nr d := fun d hd => ⟨all_fit (ds := tail2) (by decide +kernel) d hd, fun ds e => by
  subst e
  simp [tail2] at hd⟩
theorem Acc.lay {l p : Addr} {G H G1 H1 H2 : Hp} {vs : List V} {ls : List (Addr × HO)} (s : Acc l G H G1 H1 vs) (hp : H2 p = none) (y : Lay H1 ls H2) : ∃ G2, Gro none G1 H1 G2 H2 ∧ (∀ a o, (a, o) ∈ ls → G2 a = some o) ∧ ∀ ws, Acc p G H G2 (L2.upd H2 p (.lst ws)) ws := by
  obtain ⟨G2, g2, k2⟩ := y.know s.w
  exact ⟨G2, g2, k2, fun ws => Acc.newL (l := l) (s.gr.trans0 g2) hp⟩
theorem deed_not {M : MN} {W : Wd} {d : PyData} (hf : Nr d) (h : (((possM M W).map Deed.d).any fun z => PyData.eqv z d) = false) : canD M W d = false := by
  cases e : canD M W d with
  | false => rfl
  | true =>
    obtain ⟨D, hD, hs⟩ := can_poss hf.1.2 e
    rcases hs with hs | hs
    · exact absurd hs (hf.2 _)
    · rw [hs, any_deed hD] at h
      cases h
theorem deed_none (M : MN) (W : Wd) : (((possM M W).map Deed.d).any fun z => PyData.eqv z .none) = false := by
  rw [List.any_eq_false]
  intro z hz
  obtain ⟨D, _, rfl⟩ := List.mem_map.mp hz
  cases D <;> simp [Deed.d, Deed.ps, PyData.eqv]
theorem shp_poss {M : MN} {W : Wd} {BB : Nat} (ok : MNOk M) (wok : WdOk M W BB) (h : BB ≤ 1000) : Shp (.list ((possM M W).map Deed.d)) := shp_list (okD_le (n := 4) (okD_tup (by rw [List.length_map]; exact poss_len ok wok h) fun d hd => by
  obtain ⟨D, _, rfl⟩ := List.mem_map.mp hd
  cases D
  · exact (fit_act _ (by decide +kernel) _).1
  · exact (fit_three _ (by decide +kernel) _ _).1
  · exact (fit_three _ (by decide +kernel) _ _).1) (by decide))
def sp_near (K : PySem.W.Frag) : Sp := fun vs H Q _ => ∃ (G : Hp) (b n : Addr) (kvs : List (Key × V)) (M : MN) (x : V) (W : Wd) (BB : Nat), vs = [.ref b, .ref n, x] ∧ Ex G H ∧ G b = none ∧ H b = some (.dK kvs) ∧ PoolD K G kvs ∧ NetL K G n M ∧ MNOk M ∧ Rp K G x W.lw ∧ WdOk M W BB ∧ BB ≤ 900 ∧ (∀ k ∈ W.n, k ≤ 900) ∧
  ∀ (u : V) (d : PyData) (kvs' : List (Key × V)) (G' H' : Hp), Sd b G H G' H' (.dK kvs') → PoolD K G' kvs' → Rp K G' u d → okD 3 d = true → canD M W d = false → Q u H'
/-- the world behind deeds -/
def endM (M : MN) (W : Wd) (ds : List PyData) : Wd := ds.foldl (fun W d => stepM M W (dOf d)) W
theorem endM_next {M : MN} {W : Wd} {ds : List PyData} {i : Nat} {d : PyData} (h : ds[i]? = some d) : endM M W (ds.take (i + 1)) = stepM M (endM M W (ds.take i)) (dOf d) := by
  unfold endM
  rw [List.take_add_one, h, List.foldl_append] <;> rfl
theorem endM_ok {M : MN} {B : Nat} : ∀ (ds : List PyData) {W : Wd} {k : Nat}, WdOk M W k → k + ds.length ≤ B → WdOk M (endM M W ds) B
  | [], W, k, h, hB => ⟨h.ls, h.ln, h.lp, fun r hr => Nat.le_trans (h.b r hr) (by simpa using hB)⟩
  | d :: ds, W, k, h, hB => endM_ok ds (h.step (dOf d)) (by simp only [List.length_cons] at hB; omega)
/-- the first i deeds can be done, and there may be so many -/
def GoesM (M : MN) (W : Wd) (r : Nat) (ds : List PyData) (i : Nat) : Prop := i ≤ r ∧ ∀ j d, j < i → ds[j]? = some d → canD M (endM M W (ds.take j)) d = true
def worldsM (M : MN) (W : Wd) (ds : List PyData) (i : Nat) : List PyData := (List.range i).map fun j => (endM M W (ds.take (j + 1))).d true
theorem worldsM_next (M : MN) (W : Wd) (ds : List PyData) (i : Nat) : worldsM M W ds (i + 1) = worldsM M W ds i ++ [(endM M W (ds.take (i + 1))).d true] := by
  unfold worldsM
  rw [List.range_succ, List.map_append] <;> rfl
theorem atI_last {vs : List V} {v : V} : atI (vs ++ [v]) (-1) = some v := by
  have hn : (vs ++ [v]).length = vs.length + 1 := by rw [List.length_append] <;> rfl
  have e : ixN (vs ++ [v]).length (-1) = some vs.length := by
    unfold ixN
    rw [hn, if_neg (by omega), if_pos (by omega)]
    congr 1
    omega
  unfold atI
  rw [e]
  show (vs ++ [v])[vs.length]? = some v
  rw [List.getElem?_append_right (Nat.le_refl _), Nat.sub_self] <;> rfl
theorem last_won {K : PySem.W.Frag} {G : Hp} {M : MN} {W : Wd} {b : Bool} {ds : List PyData} {i : Nat} {vs : List V} (h : Rps K G vs (W.d b :: worldsM M W ds i)) : ∃ b2 v, atI vs (-1) = some v ∧ Rp K G v ((endM M W (ds.take i)).d b2) := by
  cases i with
  | zero =>
    obtain ⟨v, us, rfl, h1, h2⟩ := rps_cons h
    obtain rfl := rps_nil h2
    exact ⟨b, v, atI_last (vs := []), h1⟩
  | succ i =>
    rw [worldsM_next, ← List.cons_append] at h
    have hl := h.len
    obtain ⟨v, hv, rv⟩ := h.get (i := (W.d b :: worldsM M W ds i).length) (d := (endM M W (ds.take (i + 1))).d true) (by simp)
    refine ⟨true, v, ?_, rv⟩
    have hn : vs.length = (W.d b :: worldsM M W ds i).length + 1 := by rw [hl, List.length_append] <;> rfl
    have e : vs = vs.take (W.d b :: worldsM M W ds i).length ++ [v] := by
      have h2 := List.take_add_one (l := vs) (i := (W.d b :: worldsM M W ds i).length)
      rw [hv, ← hn, List.take_length] at h2
      exact h2
    rw [e]
    exact atI_last
def sp_won (K : PySem.W.Frag) (C CS : Addr) : Sp := fun vs H Q E => ∃ (G : Hp) (a : Addr) (M : MN) (v : V) (b : Bool) (W : Wd) (m : Nat) (u : V) (d : PyData), vs = [.ref a, v, .int (m : Int), u] ∧ Ex G H ∧ NetAt K C G a M.N ∧ MNOk M ∧ NOk M.N ∧ Rp K G v (W.d b) ∧ WdOk M W m ∧ m ≤ 60 ∧ Rp K G u d ∧ Shp d ∧
  (dSeq d = false → ∀ H1 dd, Ex H H1 → H1 dd = none → E (.ref CS) (some dd) (L2.upd H1 dd (.xd [("at", .int 0)]))) ∧
  ∀ ds, Seq d ds → (GoesM M W (60 - m) ds ds.length → ∀ G2 H2 p, Gro none G H G2 H2 → Rp K G2 (.ref p) (.tuple (W.d b :: worldsM M W ds ds.length)) → Q (.ref p) H2) ∧
    ∀ i, i < ds.length → GoesM M W (60 - m) ds i → ¬ GoesM M W (60 - m) ds (i + 1) → ∀ H1 dd, Ex H H1 → H1 dd = none → E (.ref CS) (some dd) (L2.upd H1 dd (.xd [("at", .int (i : Int))]))
def sp_played (K : PySem.W.Frag) (C CS : Addr) : Sp := fun vs H Q E => ∃ (G : Hp) (a : Addr) (M : MN) (u : V) (d : PyData), vs = [.ref a, u] ∧ Ex G H ∧ NetAt K C G a M.N ∧ MNOk M ∧ NOk M.N ∧ Rp K G u d ∧ Shp d ∧
  (dSeq d = false → ∀ H1 dd, Ex H H1 → H1 dd = none → E (.ref CS) (some dd) (L2.upd H1 dd (.xd [("at", .int 0)]))) ∧
  ∀ ds, Seq d ds → (GoesM M (startM M) 60 ds ds.length → ∀ G2 H2 p, Gro none G H G2 H2 → Rp K G2 (.ref p) (.tuple ((startM M).d true :: worldsM M (startM M) ds ds.length)) → Q (.ref p) H2) ∧
    ∀ i, i < ds.length → GoesM M (startM M) 60 ds i → ¬ GoesM M (startM M) 60 ds (i + 1) → ∀ H1 dd, Ex H H1 → H1 dd = none → E (.ref CS) (some dd) (L2.upd H1 dd (.xd [("at", .int (i : Int))]))
/-! the pool, and lists that change, beside what is known -/
structure Bx (K : PySem.W.Frag) (b : Addr) (G0 H0 G H : Hp) (cells : List (Addr × HO)) : Prop where
  gr : Gro (some b) G0 H0 G H
  gb : G b = none
  pool : ∃ kvs, H b = some (.dK kvs) ∧ PoolD K G kvs
  cs : ∀ a o, (a, o) ∈ cells → G a = none ∧ H a = some o ∧ H0 a = none ∧ a ≠ b
  nd : (cells.map Prod.fst).Nodup
section
variable {K : PySem.W.Frag} {b p a a2 : Addr} {G0 H0 G H G2 H2 : Hp} {cells : List (Addr × HO)} {o o2 o3 u : HO} {vs ws : List V}
theorem Bx.ww (s : Bx K b G0 H0 G H cells) : Ex G H := s.gr.w
theorem Bx.g (s : Bx K b G0 H0 G H cells) : Ex G0 G := s.gr.g
theorem Bx.hb (s : Bx K b G0 H0 G H cells) : H b ≠ none := by
  obtain ⟨kvs, h, _⟩ := s.pool
  rw [h]
  exact fun z => nomatch z
theorem Bx.start {kvs : List (Key × V)} (eG : Ex G H) (gb : G b = none) (hb : H b = some (.dK kvs)) (hB : PoolD K G kvs) : Bx K b G H G H [] :=
  ⟨Gro.start eG (Ex.refl _), gb, ⟨kvs, hb, hB⟩, fun _ _ h => (by cases h), List.nodup_nil⟩
theorem Bx.ne (s : Bx K b G0 H0 G H cells) (hp : H p = none) : p ≠ b := fun z => s.hb (by rw [← z]; exact hp)
theorem Bx.fresh (s : Bx K b G0 H0 G H cells) (hp : H p = none) : H0 p = none := s.gr.fresh hp (s.ne hp)
theorem Bx.sd (s : Bx K b G0 H0 G H cells) : ∃ kvs, Sd b G0 H0 G H (.dK kvs) ∧ PoolD K G kvs := by
  obtain ⟨kvs, h, hB⟩ := s.pool
  exact ⟨kvs, ⟨s.gr, s.gb, h⟩, hB⟩
/-- what is known and what there is grow -/
theorem Bx.gro (s : Bx K b G0 H0 G H cells) (g : Gro none G H G2 H2) : Bx K b G0 H0 G2 H2 cells := by
  obtain ⟨kvs, h, hB⟩ := s.pool
  refine ⟨s.gr.then_ g s.hb, g.n b s.hb s.gb, ⟨kvs, g.ex _ _ h, hB.mono g.g⟩, fun a o m => ?_, s.nd⟩
  obtain ⟨h1, h2, h3, h4⟩ := s.cs a o m
  exact ⟨g.n a (by rw [h2]; exact fun z => nomatch z) h1, g.ex _ _ h2, h3, h4⟩
theorem Bx.up (s : Bx K b G0 H0 G H cells) (e : Ex H H2) : Bx K b G0 H0 G H2 cells := s.gro (Gro.up s.ww e)
/-- a call that draws -/
theorem Bx.grob {kvs : List (Key × V)} (s : Bx K b G0 H0 G H cells) (g : Sd b G H G2 H2 (.dK kvs)) (hB : PoolD K G2 kvs) : Bx K b G0 H0 G2 H2 cells := by
  refine ⟨s.gr.thenB g.gr s.hb, g.gb, ⟨kvs, g.hb, hB⟩, fun a o m => ?_, s.nd⟩
  obtain ⟨h1, h2, h3, h4⟩ := s.cs a o m
  exact ⟨g.gr.n a (by rw [h2]; exact fun z => nomatch z) h1, g.gr.k a o (fun z => h4 (Option.some.inj z)) h2, h3, h4⟩
theorem Bx.grobB (s : Bx K b G0 H0 G H cells) (g : Bx K b G H G2 H2 []) : Bx K b G0 H0 G2 H2 cells := by
  obtain ⟨kvs, g1, hB⟩ := g.sd
  exact s.grob g1 hB
/-- a new object, known -/
theorem Bx.made (s : Bx K b G0 H0 G H cells) (hp : H p = none) : ∃ G', Ex G G' ∧ G' p = some o ∧ Bx K b G0 H0 G' (L2.upd H p o) cells :=
  ⟨L2.upd G p o, Ex.new (s.ww.back hp), upd_same, s.gro (Gro.new s.ww hp)⟩
/-- many new objects, known -/
theorem Bx.lay {l : List (Addr × HO)} (s : Bx K b G0 H0 G H cells) (y : Lay H l H2) : ∃ G', Ex G G' ∧ (∀ p o, (p, o) ∈ l → G' p = some o) ∧ Bx K b G0 H0 G' H2 cells := by
  obtain ⟨G', g, k⟩ := y.know s.ww
  exact ⟨G', g.g, k, s.gro g⟩
/-- a new object that will change -/
theorem Bx.open_ (s : Bx K b G0 H0 G H cells) (hp : H p = none) : Bx K b G0 H0 G (L2.upd H p o) ((p, o) :: cells) := by
  have s2 := s.up (Ex.new (o := o) hp)
  refine ⟨s2.gr, s2.gb, s2.pool, fun a u m => ?_, ?_⟩
  · rcases List.mem_cons.mp m with h | h
    · cases h
      exact ⟨s.ww.back hp, upd_same, s.fresh hp, s.ne hp⟩
    · exact s2.cs a u h
  · rw [List.map_cons, List.nodup_cons]
    refine ⟨fun z => ?_, s.nd⟩
    obtain ⟨⟨a, u⟩, hm, rfl⟩ := List.mem_map.mp z
    have := (s.cs a u hm).2.1
    rw [hp] at this
    cases this
theorem Bx.at0 (s : Bx K b G0 H0 G H ((a, o) :: cells)) : H a = some o := (s.cs a o (List.mem_cons_self ..)).2.1
theorem Bx.at1 {c : Addr × HO} (s : Bx K b G0 H0 G H (c :: (a, o) :: cells)) : H a = some o := (s.cs a o (List.mem_cons_of_mem _ (List.mem_cons_self ..))).2.1
theorem Bx.at2 {c d : Addr × HO} (s : Bx K b G0 H0 G H (c :: d :: (a, o) :: cells)) : H a = some o := (s.cs a o (List.mem_cons_of_mem _ (List.mem_cons_of_mem _ (List.mem_cons_self ..)))).2.1
/-- the first cell changes -/
theorem Bx.put0 (s : Bx K b G0 H0 G H ((a, o) :: cells)) (o2 : HO) : Bx K b G0 H0 G (L2.upd H a o2) ((a, o2) :: cells) := by
  obtain ⟨h1, h2, h3, h4⟩ := s.cs a o (List.mem_cons_self ..)
  obtain ⟨kvs, h, hB⟩ := s.pool
  have hn := s.nd
  rw [List.map_cons, List.nodup_cons] at hn
  refine ⟨s.gr.cell h1 h3, s.gb, ⟨kvs, upd_mu h (Ne.symm h4), hB⟩, fun x u m => ?_, s.nd⟩
  rcases List.mem_cons.mp m with h | h
  · cases h
    exact ⟨h1, upd_same, h3, h4⟩
  · obtain ⟨k1, k2, k3, k4⟩ := s.cs x u (List.mem_cons_of_mem _ h)
    exact ⟨k1, upd_mu k2 (fun z => hn.1 (by rw [← z]; exact List.mem_map.mpr ⟨(x, u), h, rfl⟩)), k3, k4⟩
/-- two cells change places in the list -/
theorem Bx.swap {c d : Addr × HO} (s : Bx K b G0 H0 G H (c :: d :: cells)) : Bx K b G0 H0 G H (d :: c :: cells) :=
  ⟨s.gr, s.gb, s.pool, fun x u m => s.cs x u (by
    rcases List.mem_cons.mp m with h | h
    · exact List.mem_cons_of_mem _ (by rw [h]; exact List.mem_cons_self ..)
    · rcases List.mem_cons.mp h with h | h
      · rw [h]; exact List.mem_cons_self ..
      · exact List.mem_cons_of_mem _ (List.mem_cons_of_mem _ h)), by
      have h := s.nd
      rw [List.map_cons, List.map_cons] at h ⊢
      exact (List.Perm.swap d.1 c.1 _).nodup_iff.mp h⟩
theorem Bx.put1 {c : Addr × HO} (s : Bx K b G0 H0 G H (c :: (a, o) :: cells)) (o2 : HO) : Bx K b G0 H0 G (L2.upd H a o2) (c :: (a, o2) :: cells) := (s.swap.put0 o2).swap
/-- the first cell changes no more -/
theorem Bx.close (s : Bx K b G0 H0 G H ((a, o) :: cells)) : ∃ G', Ex G G' ∧ G' a = some o ∧ Bx K b G0 H0 G' H cells := by
  obtain ⟨h1, h2, h3, h4⟩ := s.cs a o (List.mem_cons_self ..)
  obtain ⟨kvs, h, hB⟩ := s.pool
  have hn := s.nd
  rw [List.map_cons, List.nodup_cons] at hn
  refine ⟨L2.upd G a o, Ex.new h1, upd_same, s.gr.know h1 h3 h2, by rw [upd_ne (Ne.symm h4)]; exact s.gb, ⟨kvs, h, hB.mono (Ex.new h1)⟩, fun x u m => ?_, hn.2⟩
  obtain ⟨k1, k2, k3, k4⟩ := s.cs x u (List.mem_cons_of_mem _ m)
  refine ⟨?_, k2, k3, k4⟩
  rw [upd_ne (fun z => hn.1 (by rw [← z]; exact List.mem_map.mpr ⟨(x, u), m, rfl⟩))]
  exact k1
/-- a draw -/
theorem Bx.take {m : Int} {Q : VK} {E : XK} (s : Bx K b G0 H0 G H cells) (m0 : 0 < m) (m1 : m < 1073741824) (q : ∀ (r : Nat) H', (r : Int) < m → Bx K b G0 H0 G H' cells → Q (.int (r : Int)) H') : sp_take K [.ref b, .int m] H Q E := by
  obtain ⟨kvs, hb, hB⟩ := s.pool
  refine ⟨G, b, m, kvs, rfl, s.ww, s.gb, hb, hB, ⟨m0, m1⟩, fun r kv2 H2 r0 r1 hB2 e2 hb2 k2 => ?_⟩
  obtain ⟨n, rfl⟩ := Int.eq_ofNat_of_zero_le r0
  refine q n H2 r1 ⟨⟨s.gr.g, e2, fun a o z h => ?_, s.gr.n⟩, s.gb, ⟨kv2, hb2, hB2⟩, fun a o m => ?_, s.nd⟩
  · exact k2 a o (fun y => z (by rw [y])) (s.gr.k a o z h)
  · obtain ⟨h1, h2, h3, h4⟩ := s.cs a o m
    exact ⟨h1, k2 a o h4 h2, h3, h4⟩
end
section
variable {K : PySem.W.Frag} {b : Addr} {G0 H0 G H : Hp} {cells : List (Addr × HO)} {Q : VK}
theorem Bx.names {m : Nat} {E : XK} (s : Bx K b G0 H0 G H cells) (hm : m ≤ 8) (q : ∀ (l : Addr) (zs : List Str) (G' H' : Hp), Ex G G' → Bx K b G0 H0 G' H' cells → Rp K G' (.ref l) (.list (zs.map PyData.str)) → zs.length = m → zs.Nodup → (∀ z ∈ zs, isName (.str z) = true) → Q (.ref l) H') : sp_dnames K [.ref b, .int (m : Int)] H Q E := by
  obtain ⟨kvs, hb, hB⟩ := s.pool
  exact ⟨G, b, kvs, m, rfl, s.ww, s.gb, hb, hB, hm, fun l zs kv2 G' H' sd hB2 h1 h2 h3 h4 => q l zs G' H' sd.g (s.grob sd hB2) h1 h2 h3 h4⟩
/-- one turn of a comprehension without a test, with draws -/
abbrev BxBody (g : TG) (tt : TT) (te : TE) (ws : List Nat) (σ : L2.St) (K : PySem.W.Frag) (b : Addr) (G0 H0 : Hp) (cells' : List (Addr × HO)) (R : PyData → Prop) (u : V) (G' H' : Hp) : Prop :=
  ∀ (C : V → Hp → Prop) (N : Hp → Prop), (∀ y d G2 H2, Ex G' G2 → Bx K b G0 H0 G2 H2 cells' → Rp K G2 y d → R d → C y H2) → g u (wipe σ ws) H' fun σ2 H2 => wipe σ2 ws = wipe σ ws ∧ tt σ2 H2 fun bb H3 => if bb = true then te σ2 H3 C else N H3
def BxIn (K : PySem.W.Frag) (b : Addr) (G0 H0 G : Hp) (cells : List (Addr × HO)) (R : Nat → PyData → Prop) (D : Addr) (i : Nat) (H' : Hp) : Prop :=
  ∃ G' acc ds, Ex G G' ∧ Bx K b G0 H0 G' H' ((D, .lst acc) :: cells) ∧ Rps K G' acc ds ∧ ds.length = i ∧ ∀ j d, ds[j]? = some d → R j d
section
variable {g : TG} {tt : TT} {te : TE} {ws : List Nat} {σ : L2.St} {R : Nat → PyData → Prop}
theorem BxIn.turn {D : Addr} {i : Nat} {u : V} {H' : Hp} (hi : i < 1000000) (h : BxIn K b G0 H0 G cells R D i H') (body : ∀ G' cells', Ex G G' → Bx K b G0 H0 G' H' cells' → BxBody g tt te ws σ K b G0 H0 cells' (R i) u G' H') :
    g u (wipe σ ws) H' fun σ2 H2 => wipe σ2 ws = wipe σ ws ∧ tt σ2 H2 fun bb H3 => if bb = true then te σ2 H3 fun y H4 => ∃ acc, H4 D = some (.lst acc) ∧ acc.length < sizeLine ∧ BxIn K b G0 H0 G cells R D (i + 1) (L2.upd H4 D (.lst (acc ++ [y]))) else BxIn K b G0 H0 G cells R D (i + 1) H3 := by
  obtain ⟨G', acc, ds, eg, s, hr, hl, hR⟩ := h
  refine body G' _ eg s _ _ (fun y d G2 H2 e2 s2 r2 hd => ⟨acc, s2.at0, line_lt (by rw [hr.len, hl]; omega), G2, acc ++ [y], ds ++ [d], eg.trans e2, s2.put0 _, (hr.mono e2).app (Rps.one r2), by rw [List.length_append, hl] <;> rfl, fun j d' hj => ?_⟩)
  by_cases z : j < ds.length
  · rw [List.getElem?_append_left z] at hj
    exact hR j d' hj
  · have hj2 := (List.getElem?_eq_some_iff.mp hj).1
    rw [List.length_append] at hj2
    have e : j = i := by simp only [List.length_cons, List.length_nil] at hj2; omega
    subst e
    rw [← hl, List.getElem?_append_right (Nat.le_refl _), Nat.sub_self] at hj
    cases hj
    exact hd
theorem BxIn.done {D : Addr} {n : Nat} {H' : Hp} (h : BxIn K b G0 H0 G cells R D n H') (q : ∀ D ds G' H', Ex G G' → Bx K b G0 H0 G' H' cells → Rp K G' (.ref D) (.list ds) → ds.length = n → (∀ j d, ds[j]? = some d → R j d) → Q (.ref D) H') : Q (.ref D) H' := by
  obtain ⟨G', acc, ds, eg, s, hr, hl, hR⟩ := h
  obtain ⟨G2, e2, k2, s2⟩ := s.close
  exact q D ds G2 H' (eg.trans e2) s2 (.lst k2 (hr.mono e2)) hl hR
/-- a comprehension over a known list, over a range, with draws -/
theorem Bx.lcL {v : V} {ds : List PyData} (R : Nat → PyData → Prop) (s : Bx K b G0 H0 G H cells) (hv : Rp K G v (.list ds)) (hn : ds.length ≤ 1000000)
    (body : ∀ i d u G' H' cells', ds[i]? = some d → Ex G G' → Bx K b G0 H0 G' H' cells' → Rp K G' u d → BxBody g tt te ws σ K b G0 H0 cells' (R i) u G' H')
    (done : ∀ D es G' H', Ex G G' → Bx K b G0 H0 G' H' cells → Rp K G' (.ref D) (.list es) → es.length = ds.length → (∀ i d, es[i]? = some d → R i d) → Q (.ref D) H') : kcLst K g tt te ws σ Q v H := by
  obtain ⟨a, vs, rfl, hS, hr⟩ := rp_lst hv
  refine q_lst_lc (.inl (.inl (s.ww _ _ hS))) (fun D hD => ⟨BxIn K b G0 H0 G cells R D, ⟨G, [], [], Ex.refl _, s.open_ hD, .nil, rfl, fun j d h => (by simp at h)⟩, ?_, ?_, ?_⟩)
  · rintro i H' hi ⟨G', acc, es, eg, s', _⟩
    exact .inl (.inl (s'.ww _ _ (eg _ _ hS)))
  · intro i x H' hx hI
    obtain ⟨d, hd, ru⟩ := hr.at hx
    have hi := (List.getElem?_eq_some_iff.mp hd).1
    exact BxIn.turn (by omega) hI fun G' cells' eg s' => body i d x G' H' cells' hd eg s' (ru.mono eg)
  · intro H' hI
    rw [hr.len] at hI
    exact BxIn.done hI done
theorem Bx.lcR {n : Nat} (R : Nat → PyData → Prop) (s : Bx K b G0 H0 G H cells) (hn : n ≤ 1000000)
    (body : ∀ i G' H' cells', i < n → Ex G G' → Bx K b G0 H0 G' H' cells' → BxBody g tt te ws σ K b G0 H0 cells' (R i) (.int (i : Int)) G' H')
    (done : ∀ D es G' H', Ex G G' → Bx K b G0 H0 G' H' cells → Rp K G' (.ref D) (.list es) → es.length = n → (∀ i d, es[i]? = some d → R i d) → Q (.ref D) H') : kcRng1 g tt te ws σ Q [.int (n : Int)] H := by
  refine q_rng_lc n hn (fun D hD => ⟨BxIn K b G0 H0 G cells R D, ⟨G, [], [], Ex.refl _, s.open_ hD, .nil, rfl, fun j d h => (by simp at h)⟩, ?_, ?_⟩)
  · intro i H' hi hI
    exact BxIn.turn (by omega) hI fun G' cells' eg s' => body i G' H' cells' hi eg s'
  · intro H' hI
    exact BxIn.done hI done
end
end

def sp_prule (K : PySem.W.Frag) : Sp := fun vs H Q _ => ∃ (G : Hp) (b : Addr) (kvs : List (Key × V)) (v1 v2 : V) (ps cs : List PyData), vs = [.ref b, v1, v2] ∧ Ex G H ∧ G b = none ∧ H b = some (.dK kvs) ∧ PoolD K G kvs ∧ Rp K G v1 (.list ps) ∧ Rp K G v2 (.list cs) ∧
  0 < ps.length ∧ ps.length ≤ 5 ∧ (∀ p ∈ ps, PrN p) ∧ cs.length ≤ 8 ∧ (∀ c ∈ cs, ChN ps.length c) ∧
  ∀ (u : V) (d : PyData) (G' H' : Hp), Bx K b G H G' H' [] → Rp K G' u d → RuOk ps cs d → Q u H'
def sp_pnet (K : PySem.W.Frag) : Sp := fun vs H Q _ => ∃ (G : Hp) (b : Addr) (kvs : List (Key × V)), vs = [.ref b] ∧ Ex G H ∧ G b = none ∧ H b = some (.dK kvs) ∧ PoolD K G kvs ∧
  ∀ (n : Addr) (ps cs rs : List PyData) (G' H' : Hp), Bx K b G H G' H' [] → NetL K G' n (mnOf ps cs rs) → LNet ps cs rs → Q (.ref n) H'
def kindsS : List Str := ["order", "loose", "order lossy", "loose lossy"]
def ownM (M : MN) : Deed → Nat
  | .lose c _ => match M.C[c]? with
    | some h => h.t
    | none => 0
  | .act r => match M.R[r]? with
    | some h => h.p
    | none => 0
  | .take r _ => match M.R[r]? with
    | some h => h.p
    | none => 0
def sp_downer (K : PySem.W.Frag) : Sp := fun vs H Q _ => ∃ (G : Hp) (n : Addr) (M : MN) (u : V) (D : Deed), vs = [.ref n, u] ∧ Ex G H ∧ NetL K G n M ∧ Rp K G u D.d ∧ DV M D ∧ ∀ H', Ex H H' → Q (.int (ownM M D : Nat)) H'
/-- a run in numbers -/
def RunM (M : MN) : Wd → List Deed → Prop
  | _, [] => True
  | W, D :: Ds => D ∈ possM M W ∧ RunM M (stepM M W D) Ds
def runW (M : MN) : Wd → List Deed → List Wd
  | _, [] => []
  | W, D :: Ds => stepM M W D :: runW M (stepM M W D) Ds
def endW (M : MN) : Wd → List Deed → Wd
  | W, [] => W
  | W, D :: Ds => endW M (stepM M W D) Ds
theorem endW_app {M : MN} : ∀ {W : Wd} (xs ys : List Deed), endW M W (xs ++ ys) = endW M (endW M W xs) ys
  | _, [], _ => rfl
  | _, _ :: xs, ys => endW_app xs ys
theorem runW_app {M : MN} : ∀ {W : Wd} (xs ys : List Deed), runW M W (xs ++ ys) = runW M W xs ++ runW M (endW M W xs) ys
  | _, [], _ => rfl
  | W, D :: xs, ys => by
    show stepM M W D :: runW M (stepM M W D) (xs ++ ys) = _
    rw [runW_app xs ys] <;> rfl
theorem RunM.app {M : MN} : ∀ {W : Wd} {xs ys : List Deed}, RunM M W (xs ++ ys) ↔ RunM M W xs ∧ RunM M (endW M W xs) ys
  | _, [], _ => ⟨fun h => ⟨trivial, h⟩, fun h => h.2⟩
  | W, D :: xs, ys => by
    show D ∈ possM M W ∧ RunM M (stepM M W D) (xs ++ ys) ↔ (D ∈ possM M W ∧ RunM M (stepM M W D) xs) ∧ _
    rw [RunM.app (xs := xs) (ys := ys), and_assoc]
    rfl
theorem runW_len {M : MN} : ∀ {W : Wd} (xs : List Deed), (runW M W xs).length = xs.length
  | _, [] => rfl
  | _, _ :: xs => congrArg (· + 1) (runW_len xs)
theorem runW_last {M : MN} : ∀ (Ds : List Deed) (W : Wd), ∃ i, W :: runW M W Ds = i ++ [endW M W Ds] ∧ i.length = Ds.length
  | [], W => ⟨[], rfl, rfl⟩
  | D :: Ds, W => by
    obtain ⟨i, h, hl⟩ := runW_last Ds (stepM M W D)
    exact ⟨W :: i, by show W :: (stepM M W D :: runW M (stepM M W D) Ds) = _; rw [h] <;> rfl, congrArg (· + 1) hl⟩
theorem endW_ok {M : MN} {B : Nat} : ∀ (Ds : List Deed) {W : Wd} {k : Nat}, WdOk M W k → k + Ds.length ≤ B → WdOk M (endW M W Ds) B
  | [], W, k, h, hB => ⟨h.ls, h.ln, h.lp, fun r hr => Nat.le_trans (h.b r hr) (by simpa using hB)⟩
  | D :: Ds, W, k, h, hB => endW_ok Ds (h.step D) (by simp only [List.length_cons] at hB; omega)
theorem last_rps {K : PySem.W.Frag} {G : Hp} {vs : List V} {ds : List PyData} {d : PyData} (h : Rps K G vs (ds ++ [d])) : ∃ v, atI vs (-1) = some v ∧ Rp K G v d := by
  obtain ⟨v, hv, rv⟩ := h.get (i := ds.length) (d := d) (by simp)
  refine ⟨v, ?_, rv⟩
  have hn : vs.length = ds.length + 1 := by rw [h.len, List.length_append] <;> rfl
  have e : vs = vs.take ds.length ++ [v] := by
    have h2 := List.take_add_one (l := vs) (i := ds.length)
    rw [hv, ← hn, List.take_length] at h2
    exact h2
  rw [e]
  exact atI_last
def sp_prun (K : PySem.W.Frag) : Sp := fun vs H Q _ => ∃ (G : Hp) (b n : Addr) (kvs : List (Key × V)) (M : MN) (most : Nat), vs = [.ref b, .ref n, .int (most : Int)] ∧ Ex G H ∧ G b = none ∧ H b = some (.dK kvs) ∧ PoolD K G kvs ∧ NetL K G n M ∧ MNOk M ∧ most ≤ 60 ∧
  ∀ (u : V) (Ds : List Deed) (G' H' : Hp), Bx K b G H G' H' [] → Rp K G' u (.tuple [.list (Ds.map Deed.d), .list ((startM M :: runW M (startM M) Ds).map Wd.lw)]) → RunM M (startM M) Ds → Ds.length ≤ most → Q u H'
theorem shp_deed (D : Deed) : Shp (.tuple D.ps) := by
  cases D
  · exact (fit_act _ (by decide +kernel) _).shp
  · exact (fit_three _ (by decide +kernel) _ _).shp
  · exact (fit_three _ (by decide +kernel) _ _).shp
theorem tn_up : ∀ {n : Nat} {d : PyData}, Tn n d → Tn (n + 1) d
  | 0, _, h => h.elim
  | n + 1, .tuple ds, h => ⟨h.1, fun d m => tn_up (h.2 d m)⟩
  | n + 1, .list _, h => h.elim
  | n + 1, .dict _, h => h.elim
  | n + 1, .bool _, h => h.elim
  | n + 1, .none, _ => True.intro
  | n + 1, .int _, _ => True.intro
  | n + 1, .str _, _ => True.intro
theorem tn_poss {M : MN} {W : Wd} {BB : Nat} (ok : MNOk M) (h : WdOk M W BB) (hB : BB ≤ 1000) : Tn 5 (.tuple ((possM M W).map Deed.d)) := by
  refine ⟨by rw [List.length_map]; have := poss_len ok h hB; omega, fun d hd => ?_⟩
  obtain ⟨D, _, rfl⟩ := List.mem_map.mp hd
  cases D <;> exact ⟨by simp [Deed.ps], fun d hd => by
    simp only [Deed.ps, List.mem_cons, List.mem_nil_iff, or_false] at hd
    rcases hd with rfl | rfl | rfl <;> exact True.intro⟩
theorem tn_wd {M : MN} {W : Wd} {BB : Nat} (ok : MNOk M) (h : WdOk M W BB) (hB : BB ≤ 1000) : Tn 5 (W.d true) := by
  have intsS : ∀ (l : List Nat) (n : Nat), l.length ≤ 1000 → Tn (n + 2) (.tuple (l.map nD)) := fun l n hl => ⟨by rw [List.length_map]; omega, fun d hd => by
    obtain ⟨k, _, rfl⟩ := List.mem_map.mp hd
    exact True.intro⟩
  refine ⟨by simp, fun d hd => ?_⟩
  simp only [List.mem_cons, List.mem_nil_iff, or_false] at hd
  rcases hd with rfl | rfl | rfl
  · exact intsS W.s 2 (by rw [h.ls]; have := ok.lp; omega)
  · exact intsS W.n 2 (by rw [h.ln]; have := ok.lc; omega)
  · refine ⟨by rw [List.length_map, h.lp]; have := ok.lc; omega, fun d hd => ?_⟩
    obtain ⟨r, hr, rfl⟩ := List.mem_map.mp hd
    have := h.b r hr
    refine ⟨by rw [List.length_map]; omega, fun d hd => ?_⟩
    obtain ⟨m, _, rfl⟩ := List.mem_map.mp hd
    exact ⟨by simp, fun d hd => by
      simp only [List.mem_cons, List.mem_nil_iff, or_false] at hd
      rcases hd with rfl | rfl <;> exact True.intro⟩

/-! runs as rows of deeds, tuples or lists -/
def sqd (b : Bool) (D : Deed) : PyData := sqD b D.ps
theorem sqd_seq (b : Bool) (D : Deed) : Seq (sqd b D) D.ps := sqD_seq b D.ps
theorem can_sqd (M : MN) (W : Wd) (b : Bool) (D : Deed) : canD M W (sqd b D) = canD M W D.d := by
  cases b
  · exact can_list M W D.ps
  · rfl
theorem dOf_sqd (b : Bool) (D : Deed) : dOf (sqd b D) = D := dOf_eq (sqd_seq b D)
theorem endM_run (M : MN) (b : Bool) : ∀ (Ds : List Deed) (W : Wd), endM M W (Ds.map (sqd b)) = endW M W Ds
  | [], W => rfl
  | D :: Ds, W => by
    show endM M (stepM M W (dOf (sqd b D))) (Ds.map (sqd b)) = _
    rw [dOf_sqd, endM_run M b Ds] <;> rfl
theorem endM_take (M : MN) (b : Bool) (Ds : List Deed) (W : Wd) (j : Nat) : endM M W ((Ds.map (sqd b)).take j) = endW M W (Ds.take j) := by
  rw [← List.map_take, endM_run]
theorem RunM.take {M : MN} {W : Wd} {Ds : List Deed} (h : RunM M W Ds) (j : Nat) : RunM M W (Ds.take j) := by
  have h2 : RunM M W (Ds.take j ++ Ds.drop j) := by rw [List.take_append_drop]; exact h
  exact (RunM.app.mp h2).1
theorem RunM.at {M : MN} {W : Wd} {Ds : List Deed} (h : RunM M W Ds) {j : Nat} {D : Deed} (hj : Ds[j]? = some D) : D ∈ possM M (endW M W (Ds.take j)) := by
  have hl := (List.getElem?_eq_some_iff.mp hj).1
  have e : Ds = Ds.take j ++ (D :: Ds.drop (j + 1)) := by
    conv => lhs; rw [← List.take_append_drop j Ds, List.drop_eq_getElem_cons hl]
    rw [(List.getElem?_eq_some_iff.mp hj).2]
  rw [e] at h
  exact (RunM.app.mp h).2.1
theorem at_sqd {b : Bool} {Ds : List Deed} {j : Nat} {d : PyData} (h : (Ds.map (sqd b))[j]? = some d) : ∃ D, Ds[j]? = some D ∧ d = sqd b D := by
  rw [List.getElem?_map] at h
  cases e : Ds[j]? with
  | none => rw [e] at h; cases h
  | some D => rw [e] at h; exact ⟨D, rfl, (Option.some.inj h).symm⟩
theorem goes_run {M : MN} {W : Wd} {b : Bool} {Ds : List Deed} {r i : Nat} (h : RunM M W Ds) (hr : i ≤ r) : GoesM M W r (Ds.map (sqd b)) i := ⟨hr, fun j d hj hd => by
  obtain ⟨D, hD, rfl⟩ := at_sqd hd
  rw [endM_take, can_sqd]
  exact poss_can (h.at hD)⟩
theorem worlds_run (M : MN) (b : Bool) (Ds : List Deed) (W : Wd) : worldsM M W (Ds.map (sqd b)) Ds.length = (runW M W Ds).map fun X => X.d true := by
  have key : ∀ j, j < Ds.length → (runW M W Ds)[j]? = some (endW M W (Ds.take (j + 1))) := by
    clear b
    induction Ds generalizing W with
    | nil => intro j h; simp at h
    | cons D Ds ih =>
      intro j h
      cases j with
      | zero => rfl
      | succ j => exact ih (stepM M W D) j (by simpa using h)
  apply List.ext_getElem?
  intro j
  unfold worldsM
  rw [List.getElem?_map, List.getElem?_map]
  by_cases h : j < Ds.length
  · rw [List.getElem?_range h, key j h, Option.map_some, Option.map_some, endM_take]
  · rw [List.getElem?_eq_none (by simp; omega), List.getElem?_eq_none (by rw [runW_len]; omega)] <;> rfl
theorem runs_at {M : MN} : ∀ {Ds : List Deed} {W : Wd} {i : Nat}, i ≤ Ds.length → (W :: runW M W Ds)[i]? = some (endW M W (Ds.take i))
  | _, W, 0, _ => rfl
  | [], W, i + 1, h => absurd h (by simp)
  | D :: Ds, W, i + 1, h => runs_at (Ds := Ds) (W := stepM M W D) (i := i) (by simpa using h)
theorem runW_take (M : MN) : ∀ (Ds : List Deed) (W : Wd) (i : Nat), runW M W (Ds.take i) = (runW M W Ds).take i
  | _, _, 0 => by simp [runW]
  | [], _, _ + 1 => rfl
  | D :: Ds, W, i + 1 => congrArg (stepM M W D :: ·) (runW_take M Ds (stepM M W D) i)
/-- the mark of a drawn deed that can't be done there -/
theorem goes_bad {M : MN} {W : Wd} {b : Bool} {Ds : List Deed} {r at_ : Nat} {d : PyData} (h : RunM M W Ds) (hr : at_ ≤ r) (ha : at_ ≤ Ds.length) (hd : canD M (endW M W (Ds.take at_)) d = false) (es : List PyData) :
    GoesM M W r ((Ds.map (sqd b)).take at_ ++ d :: es) at_ ∧ ¬ GoesM M W r ((Ds.map (sqd b)).take at_ ++ d :: es) (at_ + 1) := by
  have hl : ((Ds.map (sqd b)).take at_).length = at_ := by rw [List.length_take, List.length_map]; omega
  constructor
  · refine ⟨hr, fun j x hj hx => ?_⟩
    rw [List.getElem?_append_left (by omega), List.getElem?_take_of_lt hj] at hx
    have := (goes_run (b := b) (i := at_) h hr).2 j x hj hx
    rw [List.take_append_of_le_length (by omega), List.take_take, Nat.min_eq_left (by omega)]
    exact this
  · intro z
    have h2 := z.2 at_ d (by omega) (by rw [List.getElem?_append_right (by omega), hl, Nat.sub_self] <;> rfl)
    rw [List.take_append_of_le_length (by omega), List.take_take, Nat.min_self, endM_take, hd] at h2
    cases h2
theorem okD_sqd (b : Bool) (D : Deed) : okD 1 (sqd b D) = true := by
  cases b with
  | true => exact okD_deed D
  | false =>
    have h := okD_deed D
    show okD 1 (.list D.ps) = true
    rw [Deed.d, okD] at h
    rw [okD]
    exact h
theorem okD_row {n : Nat} {b : Bool} {ds : List PyData} (h1 : ds.length ≤ 100000) (h2 : ∀ d ∈ ds, okD n d = true) : okD (n + 1) (sqD b ds) = true := by
  cases b
  · show okD (n + 1) (.list ds) = true
    rw [okD, decide_eq_true h1, Bool.true_and, List.all_eq_true]
    exact h2
  · show okD (n + 1) (.tuple ds) = true
    rw [okD, decide_eq_true h1, Bool.true_and, List.all_eq_true]
    exact h2
theorem shp_row {n : Nat} {b : Bool} {ds : List PyData} (hn : n ≤ 59) (h1 : ds.length ≤ 100000) (h2 : ∀ d ∈ ds, okD n d = true) : Shp (sqD b ds) := okD_le (okD_row h1 h2) (by omega)
theorem shp_run {b c : Bool} {Ds : List Deed} (h : Ds.length ≤ 100000) : Shp (sqD c (Ds.map (sqd b))) := shp_row (n := 1) (by decide) (by rw [List.length_map]; exact h) fun d hd => by
  obtain ⟨D, _, rfl⟩ := List.mem_map.mp hd
  exact okD_sqd b D
theorem runW_ok {M : MN} : ∀ {Ds : List Deed} {W : Wd} {k B : Nat}, WdOk M W k → k + Ds.length ≤ B → ∀ X ∈ W :: runW M W Ds, WdOk M X B
  | [], W, k, B, h, hB, X, hX => by
    obtain rfl : X = W := List.mem_singleton.mp hX
    exact ⟨h.ls, h.ln, h.lp, fun r hr => Nat.le_trans (h.b r hr) (by simpa using hB)⟩
  | D :: Ds, W, k, B, h, hB, X, hX => by
    rcases List.mem_cons.mp hX with rfl | hX
    · exact ⟨h.ls, h.ln, h.lp, fun r hr => Nat.le_trans (h.b r hr) (by omega)⟩
    · exact runW_ok (h.step D) (by simp only [List.length_cons] at hB; omega) X hX
theorem n_step {M : MN} {W : Wd} {B : Nat} (h : ∀ k ∈ W.n, k ≤ B) (D : Deed) : ∀ k ∈ (stepM M W D).n, k ≤ B + 1 := by
  have same : ∀ k ∈ W.n, k ≤ B + 1 := fun k hk => Nat.le_succ_of_le (h k hk)
  cases D with
  | lose c k => exact same
  | act r =>
    cases e : M.R[r]? with
    | none => simp only [stepM, e]; exact same
    | some R =>
      cases ea : R.a with
      | send c k =>
        simp only [stepM, e, ea]
        intro x hx
        rcases List.mem_or_eq_of_mem_set hx with h1 | rfl
        · exact same x h1
        · rw [List.getD_eq_getElem?_getD]
          cases q : W.n[c]? with
          | none => simp
          | some y =>
            have := h y (List.mem_of_getElem? q)
            show y + 1 ≤ B + 1
            omega
      | do_ => simp only [stepM, e, ea]; exact same
      | take c k => simp only [stepM, e, ea]; exact same
  | take r m =>
    cases e : M.R[r]? with
    | none => simp only [stepM, e]; exact same
    | some R =>
      cases ea : R.a with
      | send c k => simp only [stepM, e, ea]; exact same
      | do_ => simp only [stepM, e, ea]; exact same
      | take c k => simp only [stepM, e, ea]; exact same
theorem n_end {M : MN} : ∀ {Ds : List Deed} {W : Wd} {B : Nat}, (∀ k ∈ W.n, k ≤ B) → ∀ k ∈ (endW M W Ds).n, k ≤ B + Ds.length
  | [], _, _, h => h
  | D :: Ds, W, B, h => fun k hk => by
    have := n_end (Ds := Ds) (n_step h D) k hk
    simp only [List.length_cons]
    omega
theorem n_start (M : MN) : ∀ k ∈ (startM M).n, k ≤ 0 := fun k hk => by rw [(List.mem_replicate.mp hk).2]; exact Nat.le_refl _
theorem dmap (Ds : List Deed) : Ds.map Deed.d = Ds.map (sqd true) := rfl
/-- list + list, known -/
theorem q_catLL {K : PySem.W.Frag} {G H : Hp} {Q : VK} {v u : V} {ds es : List PyData} (hv : Rp K G v (.list ds)) (hu : Rp K G u (.list es)) (x : Ex G H) (hl : ds.length + es.length ≤ 1000000) (q : ∀ G2 H2 p, Gro none G H G2 H2 → Rp K G2 (.ref p) (.list (ds ++ es)) → Q (.ref p) H2) : rAddA K v u H Q := by
  obtain ⟨l, vs, rfl, hS, hr⟩ := rp_lst hv
  obtain ⟨m, ws, rfl, hT, hs⟩ := rp_lst hu
  refine q_cat (x _ _ hS) (x _ _ hT) (by rw [hr.len, hs.len]; exact Nat.le_trans hl (by decide)) (fun p hp => ?_)
  exact q (L2.upd G p (.lst (vs ++ ws))) _ p (Gro.new x hp) (.lst upd_same ((hr.app hs).mono (Ex.new (x.back hp))))
theorem tn_le : ∀ {n m : Nat} {d : PyData}, Tn n d → n ≤ m → Tn m d := fun {n m d} h e => by
  obtain ⟨k, rfl⟩ := Nat.exists_eq_add_of_le e
  clear e
  induction k with
  | zero => exact h
  | succ k ih => exact tn_up ih
theorem tn_row {n : Nat} {ds : List PyData} (hl : ds.length ≤ 1000000) (h : ∀ d ∈ ds, Tn n d) : Tn (n + 1) (.tuple ds) := ⟨hl, h⟩
theorem tn_told {n : Nat} {z : Str} {d : PyData} (h : Tn (n + 1) d) : Tn (n + 2) (.tuple [.str z, d]) := ⟨by simp, fun e he => by
  simp only [List.mem_cons, List.mem_nil_iff, or_false] at he
  rcases he with rfl | rfl
  · exact True.intro
  · exact h⟩
theorem goes_mono {M : MN} {W : Wd} {r i j : Nat} {ds : List PyData} (h : GoesM M W r ds i) (hj : j ≤ i) : GoesM M W r ds j := ⟨Nat.le_trans hj h.1, fun k d hk hd => h.2 k d (by omega) hd⟩
theorem goes_uniq {M : MN} {W : Wd} {r i j : Nat} {ds : List PyData} (h1 : GoesM M W r ds i) (h2 : ¬ GoesM M W r ds (i + 1)) (k1 : GoesM M W r ds j) (k2 : ¬ GoesM M W r ds (j + 1)) : i = j := by
  rcases Nat.lt_trichotomy i j with h | h | h
  · exact absurd (goes_mono k1 h) h2
  · exact h
  · exact absurd (goes_mono h1 h) k2

end
end Cw

set_option maxHeartbeats 4000000
/-! what deeds do to states and channels; neighbours exchanged -/
namespace Cw
open PySem PySem.Spec PyProof.Rows L2
/-- rules send and take on channels of their own -/
structure MNet (M : MN) : Prop where
  ok : MNOk M
  s : ∀ R ∈ M.R, ∀ c k, R.a = .send c k → ∃ h, M.C[c]? = some h ∧ h.g = R.p
  t : ∀ R ∈ M.R, ∀ c k, R.a = .take c k → ∃ h, M.C[c]? = some h ∧ h.t = R.p
  ne : ∀ h ∈ M.C, h.g ≠ h.t
  tl : ∀ h ∈ M.C, h.t < M.ps.length
theorem LNet.mnet {ps cs rs : List PyData} (h : LNet ps cs rs) : MNet (mnOf ps cs rs) := by
  have chn : ∀ {c : Nat} {y : Str} {g tk : Nat} {kd : Str}, cs[c]? = some (.tuple [.str y, .int g, .int tk, .str kd]) → (mnOf ps cs rs).C[c]? = some ⟨y, g, tk, kd⟩ := fun {c y g tk kd} e => by
    show (cs.map chnOf)[c]? = _
    rw [List.getElem?_map, e] <;> rfl
  refine ⟨h.mnOk, fun R hR c k e => ?_, fun R hR c k e => ?_, fun x hx => ?_, fun x hx => ?_⟩
  · obtain ⟨d, hd, rfl⟩ := List.mem_map.mp hR
    obtain ⟨p, s, t, a, z, st, rfl, _, _, _, ha⟩ := h.rk d hd
    rcases ha with rfl | ⟨c2, k2, y, g, tk, kd, hc, _, ⟨rfl, hg⟩ | ⟨rfl, hg⟩⟩
    · cases (show Act.do_ = Act.send c k from e)
    · have e2 : actOf (.tuple [.str "send", .int c2, .int k2]) = .send c k := e
      rw [show actOf (.tuple [.str "send", .int c2, .int k2]) = .send c2 k2 from by simp [actOf]] at e2
      cases e2
      exact ⟨_, chn hc, hg⟩
    · have e2 : actOf (.tuple [.str "take", .int c2, .int k2]) = .send c k := e
      rw [show actOf (.tuple [.str "take", .int c2, .int k2]) = .take c2 k2 from by simp only [actOf]; exact if_neg (by decide +kernel)] at e2
      cases e2
  · obtain ⟨d, hd, rfl⟩ := List.mem_map.mp hR
    obtain ⟨p, s, t, a, z, st, rfl, _, _, _, ha⟩ := h.rk d hd
    rcases ha with rfl | ⟨c2, k2, y, g, tk, kd, hc, _, ⟨rfl, hg⟩ | ⟨rfl, hg⟩⟩
    · cases (show Act.do_ = Act.take c k from e)
    · have e2 : actOf (.tuple [.str "send", .int c2, .int k2]) = .take c k := e
      rw [show actOf (.tuple [.str "send", .int c2, .int k2]) = .send c2 k2 from by simp [actOf]] at e2
      cases e2
    · have e2 : actOf (.tuple [.str "take", .int c2, .int k2]) = .take c k := e
      rw [show actOf (.tuple [.str "take", .int c2, .int k2]) = .take c2 k2 from by simp only [actOf]; exact if_neg (by decide +kernel)] at e2
      cases e2
      exact ⟨_, chn hc, hg⟩
  · obtain ⟨d, hd, rfl⟩ := List.mem_map.mp hx
    obtain ⟨z, g, t, k, rfl, _, _, _, hne, _⟩ := h.ck d hd
    exact hne
  · obtain ⟨d, hd, rfl⟩ := List.mem_map.mp hx
    obtain ⟨z, g, t, k, rfl, _, _, ht, _, _⟩ := h.ck d hd
    exact ht
/-- what a deed does to its process's state: (process, from, to) -/
def effS (M : MN) : Deed → Option (Nat × Nat × Nat)
  | .lose _ _ => none
  | .act r => M.R[r]?.map fun R => (R.p, R.s, R.t)
  | .take r _ => M.R[r]?.map fun R => (R.p, R.s, R.t)
/-- .. and to a channel: a token sent, or a message gone -/
def effC (M : MN) : Deed → Option (Nat × (Nat ⊕ Nat))
  | .lose c k => some (c, .inr k)
  | .act r => match M.R[r]? with
    | some R => match R.a with
      | .send c k => some (c, .inl k)
      | _ => none
    | none => none
  | .take r m => match M.R[r]? with
    | some R => match R.a with
      | .take c _ => some (c, .inr m)
      | _ => none
    | none => none
def eS : Option (Nat × Nat × Nat) → List Nat → List Nat
  | none, s => s
  | some (p, _, t), s => s.set p t
def eN : Option (Nat × (Nat ⊕ Nat)) → List Nat → List Nat
  | some (c, .inl _), n => n.set c (n.getD c 0 + 1)
  | _, n => n
def fE : Nat ⊕ Nat → Nat → List (Nat × Nat) → List (Nat × Nat)
  | .inl k, n, r => r ++ [(n, k)]
  | .inr k, _, r => r.filter fun m => decide (m.1 ≠ k)
def eP : Option (Nat × (Nat ⊕ Nat)) → List Nat → List (List (Nat × Nat)) → List (List (Nat × Nat))
  | some (c, x), n, p => p.set c (fE x (n.getD c 0) (p.getD c []))
  | none, _, p => p
theorem step_eff {M : MN} {W : Wd} {D : Deed} (dv : DV M D) : stepM M W D = ⟨eS (effS M D) W.s, eN (effC M D) W.n, eP (effC M D) W.n W.p⟩ := by
  cases D with
  | lose c k => rfl
  | act r =>
    obtain ⟨a, ha, hn⟩ := dv
    cases e : M.R[r]? with
    | none => rw [e] at ha; cases ha
    | some R =>
      rw [e] at ha
      have ea : R.a = a := Option.some.inj ha
      cases a with
      | do_ => simp only [stepM, effS, effC, e, ea, eN, eP, Option.map_some, eS]
      | send c k => simp only [stepM, effS, effC, e, ea, eN, eP, Option.map_some, eS, fE, rowM]
      | take c k => exact absurd rfl (hn c k)
  | take r m =>
    obtain ⟨c, t, ha⟩ := dv
    cases e : M.R[r]? with
    | none => rw [e] at ha; cases ha
    | some R =>
      rw [e] at ha
      have ea : R.a = .take c t := Option.some.inj ha
      simp only [stepM, effS, effC, e, ea, eN, eP, Option.map_some, eS, fE, gone, rowM]
def cS : Option (Nat × Nat × Nat) → List Nat → Prop
  | none, _ => True
  | some (p, st, _), s => s[p]? = some st
def handR (kd : Str) (row : List (Nat × Nat)) : List (Nat × Nat) := if ordd kd then row.take 1 else row
def tokD (M : MN) : Deed → Nat → Prop
  | .take r _, t => ∃ c, M.R[r]?.map Rul.a = some (.take c t)
  | _, _ => True
def lsD (M : MN) : Deed → Prop
  | .lose c _ => lossd (kindM M c) = true
  | _ => True
def cP (M : MN) (D : Deed) (p : List (List (Nat × Nat))) : Prop := match effC M D with
  | some (c, .inr k) => lsD M D ∧ ∃ t, (k, t) ∈ handR (kindM M c) (p.getD c []) ∧ tokD M D t
  | _ => True
theorem hand_row (M : MN) (W : Wd) (c : Nat) : hand M W c = handR (kindM M c) (W.p.getD c []) := rfl
theorem poss_eff {M : MN} {W : Wd} {D : Deed} : D ∈ possM M W ↔ DV M D ∧ cS (effS M D) W.s ∧ cP M D W.p := by
  constructor
  · intro h
    refine ⟨poss_dv h, ?_⟩
    rcases poss_mem h with ⟨r, hr, h⟩ | ⟨c, hc, h⟩
    · unfold ruleM at h
      rw [List.getElem?_eq_getElem hr] at h
      simp only at h
      split at h
      · rename_i hs
        cases ea : M.R[r].a with
        | take c k =>
          rw [ea] at h
          unfold takesM at h
          obtain ⟨m, hm, rfl⟩ := List.mem_map.mp h
          obtain ⟨m1, m2⟩ := List.mem_filter.mp hm
          refine ⟨?_, ?_⟩
          · show cS (M.R[r]?.map _) _
            rw [List.getElem?_eq_getElem hr]
            exact hs
          · have e : effC M (.take r m.1) = some (c, .inr m.1) := by simp only [effC, List.getElem?_eq_getElem hr, ea]
            unfold cP
            rw [e]
            refine ⟨trivial, m.2, m1, c, ?_⟩
            rw [List.getElem?_eq_getElem hr, Option.map_some, ea, of_decide_eq_true m2]
        | do_ =>
          rw [ea] at h
          obtain rfl := List.mem_singleton.mp h
          refine ⟨?_, ?_⟩
          · show cS (M.R[r]?.map _) _
            rw [List.getElem?_eq_getElem hr]
            exact hs
          · have e : effC M (.act r) = none := by simp only [effC, List.getElem?_eq_getElem hr, ea]
            unfold cP
            rw [e]
            trivial
        | send c k =>
          rw [ea] at h
          obtain rfl := List.mem_singleton.mp h
          refine ⟨?_, ?_⟩
          · show cS (M.R[r]?.map _) _
            rw [List.getElem?_eq_getElem hr]
            exact hs
          · have e : effC M (.act r) = some (c, .inl k) := by simp only [effC, List.getElem?_eq_getElem hr, ea]
            unfold cP
            rw [e]
            trivial
      · cases h
    · unfold lossesM at h
      split at h
      · rename_i hl
        obtain ⟨m, hm, rfl⟩ := List.mem_map.mp h
        exact ⟨trivial, hl, m.2, hm, trivial⟩
      · cases h
  · rintro ⟨dv, hs, hp⟩
    unfold possM
    cases D with
    | lose c k =>
      obtain ⟨hl, t, hm, _⟩ := hp
      refine List.mem_append_right _ (List.mem_flatten.mpr ⟨lossesM M W c, List.mem_map.mpr ⟨c, List.mem_range.mpr dv, rfl⟩, ?_⟩)
      unfold lossesM
      rw [if_pos (show lossd (kindM M c) = true from hl)]
      exact List.mem_map.mpr ⟨(k, t), hm, rfl⟩
    | act r =>
      obtain ⟨a, ha, hn⟩ := dv
      cases e : M.R[r]? with
      | none => rw [e] at ha; cases ha
      | some R =>
        rw [e] at ha
        have ea : R.a = a := Option.some.inj ha
        have hr := (List.getElem?_eq_some_iff.mp e).1
        refine List.mem_append_left _ (List.mem_flatten.mpr ⟨ruleM M W r, List.mem_map.mpr ⟨r, List.mem_range.mpr hr, rfl⟩, ?_⟩)
        have hs2 : W.s[R.p]? = some R.s := by
          have h := hs
          simp only [effS, e, Option.map_some] at h
          exact h
        unfold ruleM
        rw [e]
        simp only [hs2, if_true, ea]
        cases a with
        | do_ => exact List.mem_singleton.mpr rfl
        | send c k => exact List.mem_singleton.mpr rfl
        | take c k => exact absurd rfl (hn c k)
    | take r k =>
      obtain ⟨c, t, ha⟩ := dv
      cases e : M.R[r]? with
      | none => rw [e] at ha; cases ha
      | some R =>
        rw [e] at ha
        have ea : R.a = .take c t := Option.some.inj ha
        have hr := (List.getElem?_eq_some_iff.mp e).1
        refine List.mem_append_left _ (List.mem_flatten.mpr ⟨ruleM M W r, List.mem_map.mpr ⟨r, List.mem_range.mpr hr, rfl⟩, ?_⟩)
        have hs2 : W.s[R.p]? = some R.s := by
          have h := hs
          simp only [effS, e, Option.map_some] at h
          exact h
        have ec : effC M (.take r k) = some (c, .inr k) := by simp only [effC, e, ea]
        unfold cP at hp
        rw [ec] at hp
        obtain ⟨_, t2, hm, c2, h2⟩ := hp
        rw [e, Option.map_some, ea] at h2
        cases h2
        unfold ruleM
        rw [e]
        simp only [hs2, if_true, ea]
        unfold takesM
        exact List.mem_map.mpr ⟨(k, t), List.mem_filter.mpr ⟨hm, decide_eq_true rfl⟩, rfl⟩
/-! whose a deed is, by what it does -/
theorem own_s {M : MN} {D : Deed} {p s t : Nat} (h : effS M D = some (p, s, t)) : ownM M D = p := by
  cases D with
  | lose c k => cases h
  | act r =>
    cases e : M.R[r]? with
    | none => simp only [effS, e, Option.map_none] at h; cases h
    | some R =>
      simp only [effS, e, Option.map_some] at h
      cases h
      simp only [ownM, e]
  | take r k =>
    cases e : M.R[r]? with
    | none => simp only [effS, e, Option.map_none] at h; cases h
    | some R =>
      simp only [effS, e, Option.map_some] at h
      cases h
      simp only [ownM, e]
theorem own_send {M : MN} (mn : MNet M) {D : Deed} {c k : Nat} (h : effC M D = some (c, .inl k)) : ∃ x, M.C[c]? = some x ∧ x.g = ownM M D := by
  cases D with
  | lose c k => cases h
  | act r =>
    cases e : M.R[r]? with
    | none => simp only [effC, e] at h; cases h
    | some R =>
      simp only [effC, e] at h
      cases ea : R.a with
      | send c2 k2 =>
        simp only [ea] at h
        cases h
        obtain ⟨x, h1, h2⟩ := mn.s R (List.mem_of_getElem? e) c k ea
        exact ⟨x, h1, by simp only [ownM, e]; exact h2⟩
      | do_ => simp only [ea] at h; cases h
      | take c2 k2 => simp only [ea] at h; cases h
  | take r m =>
    cases e : M.R[r]? with
    | none => simp only [effC, e] at h; cases h
    | some R =>
      simp only [effC, e] at h
      cases ea : R.a with
      | send c2 k2 => simp only [ea] at h; cases h
      | do_ => simp only [ea] at h; cases h
      | take c2 k2 => simp only [ea] at h; cases h
theorem own_gone {M : MN} (mn : MNet M) {D : Deed} (dv : DV M D) {c k : Nat} (h : effC M D = some (c, .inr k)) : ∃ x, M.C[c]? = some x ∧ x.t = ownM M D := by
  cases D with
  | lose c2 k2 =>
    cases h
    exact ⟨_, List.getElem?_eq_getElem dv, by simp only [ownM, List.getElem?_eq_getElem (show c < M.C.length from dv)] <;> rfl⟩
  | act r =>
    cases e : M.R[r]? with
    | none => simp only [effC, e] at h; cases h
    | some R =>
      simp only [effC, e] at h
      cases ea : R.a with
      | send c2 k2 => simp only [ea] at h; cases h
      | do_ => simp only [ea] at h; cases h
      | take c2 k2 => simp only [ea] at h; cases h
  | take r m =>
    cases e : M.R[r]? with
    | none => simp only [effC, e] at h; cases h
    | some R =>
      simp only [effC, e] at h
      cases ea : R.a with
      | send c2 k2 => simp only [ea] at h; cases h
      | do_ => simp only [ea] at h; cases h
      | take c2 k2 =>
        simp only [ea] at h
        cases h
        obtain ⟨x, h1, h2⟩ := mn.t R (List.mem_of_getElem? e) c k2 ea
        exact ⟨x, h1, by simp only [ownM, e]; exact h2⟩
theorem own_lt {M : MN} (mn : MNet M) {D : Deed} (dv : DV M D) : ownM M D < M.ps.length := by
  cases D with
  | lose c k =>
    have hc : c < M.C.length := dv
    simp only [ownM, List.getElem?_eq_getElem hc]
    exact mn.tl _ (List.getElem_mem hc)
  | act r =>
    obtain ⟨a, ha, _⟩ := dv
    cases e : M.R[r]? with
    | none => rw [e] at ha; cases ha
    | some R =>
      simp only [ownM, e]
      exact (mn.ok.ru R (List.mem_of_getElem? e)).1
  | take r k =>
    obtain ⟨c, t, ha⟩ := dv
    cases e : M.R[r]? with
    | none => rw [e] at ha; cases ha
    | some R =>
      simp only [ownM, e]
      exact (mn.ok.ru R (List.mem_of_getElem? e)).1
/-! worlds of runs: messages have numbers that were sent -/
def WdV (W : Wd) : Prop := ∀ c m, m ∈ W.p.getD c [] → m.1 < W.n.getD c 0
theorem getD_set {α : Type} {l : List α} {i j : Nat} {x d : α} : (l.set i x).getD j d = if i = j ∧ j < l.length then x else l.getD j d := by
  rw [List.getD_eq_getElem?_getD, List.getD_eq_getElem?_getD, List.getElem?_set]
  by_cases h : i = j
  · subst h
    by_cases hl : i < l.length
    · rw [if_pos rfl, if_pos hl, if_pos ⟨rfl, hl⟩] <;> rfl
    · rw [if_pos rfl, if_neg hl, if_neg (fun z => hl z.2), List.getElem?_eq_none (by omega)]
  · rw [if_neg h, if_neg (fun z => h z.1)]
theorem WdV.start (M : MN) : WdV (startM M) := fun c m hm => by
  have : (startM M).p.getD c [] = [] := by
    show (List.replicate M.C.length []).getD c [] = []
    rw [List.getD_eq_getElem?_getD, List.getElem?_replicate]
    split <;> rfl
  rw [this] at hm
  cases hm
theorem WdV.step {M : MN} {W : Wd} {B : Nat} {D : Deed} (ok : WdOk M W B) (dv : DV M D) (h : WdV W) : WdV (stepM M W D) := by
  rw [step_eff dv]
  intro c m hm
  show m.1 < (eN (effC M D) W.n).getD c 0
  have hm2 : m ∈ (eP (effC M D) W.n W.p).getD c [] := hm
  cases e : effC M D with
  | none =>
    rw [e] at hm2
    exact h c m hm2
  | some cx =>
    obtain ⟨c1, x⟩ := cx
    rw [e] at hm2
    have hm3 : m ∈ (W.p.set c1 (fE x (W.n.getD c1 0) (W.p.getD c1 []))).getD c [] := hm2
    rw [getD_set] at hm3
    cases x with
    | inl k =>
      show m.1 < (W.n.set c1 (W.n.getD c1 0 + 1)).getD c 0
      rw [getD_set]
      by_cases z : c1 = c ∧ c < W.p.length
      · rw [if_pos z] at hm3
        obtain ⟨rfl, hl⟩ := z
        rw [if_pos ⟨rfl, by rw [ok.ln, ← ok.lp]; exact hl⟩]
        rcases List.mem_append.mp hm3 with h1 | h1
        · have := h c1 m h1
          omega
        · rw [List.mem_singleton.mp h1]
          exact Nat.lt_succ_self _
      · rw [if_neg z] at hm3
        have := h c m hm3
        split
        · rename_i z2
          obtain ⟨rfl, _⟩ := z2
          omega
        · exact this
    | inr k =>
      show m.1 < W.n.getD c 0
      by_cases z : c1 = c ∧ c < W.p.length
      · rw [if_pos z] at hm3
        obtain ⟨rfl, _⟩ := z
        exact h c1 m (List.mem_filter.mp hm3).1
      · rw [if_neg z] at hm3
        exact h c m hm3
/-! two deeds of unlike processes -/
theorem eS_comm {e1 e2 : Option (Nat × Nat × Nat)} (h : ∀ p1 s1 t1 p2 s2 t2, e1 = some (p1, s1, t1) → e2 = some (p2, s2, t2) → p1 ≠ p2) (s : List Nat) : eS e2 (eS e1 s) = eS e1 (eS e2 s) := by
  cases e1 with
  | none => rfl
  | some x1 =>
    cases e2 with
    | none => rfl
    | some x2 =>
      obtain ⟨p1, s1, t1⟩ := x1
      obtain ⟨p2, s2, t2⟩ := x2
      exact List.set_comm _ _ (h _ _ _ _ _ _ rfl rfl)
theorem cS_other {e1 e2 : Option (Nat × Nat × Nat)} (h : ∀ p1 s1 t1 p2 s2 t2, e1 = some (p1, s1, t1) → e2 = some (p2, s2, t2) → p1 ≠ p2) (s : List Nat) : cS e2 (eS e1 s) ↔ cS e2 s := by
  cases e1 with
  | none => exact Iff.rfl
  | some x1 =>
    cases e2 with
    | none => exact Iff.rfl
    | some x2 =>
      obtain ⟨p1, s1, t1⟩ := x1
      obtain ⟨p2, s2, t2⟩ := x2
      show (s.set p1 t1)[p2]? = some s2 ↔ s[p2]? = some s2
      rw [List.getElem?_set_ne (h _ _ _ _ _ _ rfl rfl)]
theorem handR_snoc {kd : Str} {row : List (Nat × Nat)} {m x : Nat × Nat} (h : m ∈ handR kd row) : m ∈ handR kd (row ++ [x]) := by
  unfold handR at h ⊢
  split
  · rename_i o
    rw [if_pos o] at h
    cases row with
    | nil => cases h
    | cons a r => exact h
  · rename_i o
    rw [if_neg o] at h
    exact List.mem_append_left _ h
theorem handR_back {kd : Str} {row : List (Nat × Nat)} {m x : Nat × Nat} (h : m ∈ handR kd (row ++ [x])) (hne : m ≠ x) : m ∈ handR kd row := by
  unfold handR at h ⊢
  split
  · rename_i o
    rw [if_pos o] at h
    cases row with
    | nil => exact absurd (List.mem_singleton.mp h) hne
    | cons a r => exact h
  · rename_i o
    rw [if_neg o] at h
    rcases List.mem_append.mp h with h | h
    · exact h
    · exact absurd (List.mem_singleton.mp h) hne
theorem handR_sub {kd : Str} {row : List (Nat × Nat)} {m : Nat × Nat} (h : m ∈ handR kd row) : m ∈ row := by
  unfold handR at h
  split at h
  · exact List.mem_of_mem_take h
  · exact h
/-- the first one sends what the other takes or loses -/
def WaitsM (M : MN) (W : Wd) (D1 D2 : Deed) : Prop := ∃ c t k, effC M D1 = some (c, .inl t) ∧ effC M D2 = some (c, .inr k) ∧ k = W.n.getD c 0
theorem diamond {M : MN} {W : Wd} {B : Nat} {D1 D2 : Deed} (mn : MNet M) (ok : WdOk M W B) (v : WdV W) (h1 : D1 ∈ possM M W) (h2 : D2 ∈ possM M (stepM M W D1)) (ho : ownM M D1 ≠ ownM M D2) (nw : ¬ WaitsM M W D1 D2) :
    D2 ∈ possM M W ∧ D1 ∈ possM M (stepM M W D2) ∧ stepM M (stepM M W D1) D2 = stepM M (stepM M W D2) D1 := by
  have dv1 := poss_dv h1
  have dv2 := poss_dv h2
  have e1 := step_eff (W := W) dv1
  have e2 := step_eff (W := W) dv2
  rw [poss_eff] at h1 h2 ⊢
  rw [poss_eff, step_eff (W := stepM M W D1) dv2, step_eff (W := stepM M W D2) dv1]
  rw [e1] at h2 ⊢
  rw [e2]
  have hs : ∀ p1 s1 t1 p2 s2 t2, effS M D1 = some (p1, s1, t1) → effS M D2 = some (p2, s2, t2) → p1 ≠ p2 := fun p1 s1 t1 p2 s2 t2 a b z => ho (by rw [own_s a, own_s b, z])
  have hs' : ∀ p1 s1 t1 p2 s2 t2, effS M D2 = some (p1, s1, t1) → effS M D1 = some (p2, s2, t2) → p1 ≠ p2 := fun p1 s1 t1 p2 s2 t2 a b z => hs _ _ _ _ _ _ b a z.symm
  obtain ⟨_, a1, b1⟩ := h1
  obtain ⟨_, a2, b2⟩ := h2
  have a2' := (cS_other hs W.s).mp a2
  have a1' := (cS_other hs' W.s).mpr a1
  have sc := eS_comm hs W.s
  have key : cP M D2 W.p ∧ cP M D1 (eP (effC M D2) W.n W.p) ∧ eN (effC M D2) (eN (effC M D1) W.n) = eN (effC M D1) (eN (effC M D2) W.n) ∧ eP (effC M D2) (eN (effC M D1) W.n) (eP (effC M D1) W.n W.p) = eP (effC M D1) (eN (effC M D2) W.n) (eP (effC M D2) W.n W.p) := by
    have b2' : cP M D2 (eP (effC M D1) W.n W.p) := b2
    unfold cP at b1 b2' ⊢
    cases q1 : effC M D1 with
    | none =>
      rw [q1] at b2'
      refine ⟨b2', trivial, rfl, rfl⟩
    | some y1 =>
      obtain ⟨c1, x1⟩ := y1
      cases q2 : effC M D2 with
      | none =>
        rw [q1] at b1
        exact ⟨trivial, b1, rfl, rfl⟩
      | some y2 =>
        obtain ⟨c2, x2⟩ := y2
        rw [q1] at b1 b2'
        rw [q2] at b2'
        by_cases hc : c1 = c2
        · subst hc
          cases x1 with
          | inl t1 =>
            cases x2 with
            | inl t2 =>
              obtain ⟨x, p1, p2⟩ := own_send mn q1
              obtain ⟨y, r1, r2⟩ := own_send mn q2
              rw [p1] at r1
              cases r1
              exact absurd (p2.symm.trans r2) ho
            | inr k2 =>
              obtain ⟨x, hx, _⟩ := own_send mn q1
              have hl : c1 < W.p.length := by rw [ok.lp]; exact (List.getElem?_eq_some_iff.mp hx).1
              have kn : k2 ≠ W.n.getD c1 0 := fun z => nw ⟨c1, t1, k2, q1, q2, z⟩
              obtain ⟨l2, t, hm, ht⟩ := b2'
              have hm2 : (k2, t) ∈ handR (kindM M c1) (W.p.getD c1 [] ++ [(W.n.getD c1 0, t1)]) := by
                have h := hm
                show (k2, t) ∈ handR (kindM M c1) _
                have e : (eP (some (c1, Sum.inl t1)) W.n W.p).getD c1 [] = W.p.getD c1 [] ++ [(W.n.getD c1 0, t1)] := by
                  show (W.p.set c1 _).getD c1 [] = _
                  rw [getD_set, if_pos ⟨rfl, hl⟩] <;> rfl
                rw [e] at h
                exact h
              refine ⟨⟨l2, t, handR_back hm2 (fun z => kn (congrArg Prod.fst z)), ht⟩, trivial, rfl, ?_⟩
              show (W.p.set c1 (W.p.getD c1 [] ++ [(W.n.getD c1 0, t1)])).set c1 (((W.p.set c1 (W.p.getD c1 [] ++ [(W.n.getD c1 0, t1)])).getD c1 []).filter fun m => decide (m.1 ≠ k2)) = (W.p.set c1 ((W.p.getD c1 []).filter fun m => decide (m.1 ≠ k2))).set c1 ((W.p.set c1 ((W.p.getD c1 []).filter fun m => decide (m.1 ≠ k2))).getD c1 [] ++ [(W.n.getD c1 0, t1)])
              rw [getD_set, if_pos ⟨rfl, hl⟩, getD_set, if_pos ⟨rfl, hl⟩, List.set_set, List.set_set, List.filter_append]
              congr 2
              rw [List.filter_cons, if_pos (decide_eq_true (Ne.symm kn))] <;> rfl
          | inr k1 =>
            cases x2 with
            | inr k2 =>
              obtain ⟨x, p1, p2⟩ := own_gone mn dv1 q1
              obtain ⟨y, r1, r2⟩ := own_gone mn dv2 q2
              rw [p1] at r1
              cases r1
              exact absurd (p2.symm.trans r2) ho
            | inl t2 =>
              obtain ⟨x, hx, _⟩ := own_send mn q2
              have hl : c1 < W.p.length := by rw [ok.lp]; exact (List.getElem?_eq_some_iff.mp hx).1
              obtain ⟨l1, t, hm, ht⟩ := b1
              have kn : W.n.getD c1 0 ≠ k1 := by
                have := v c1 (k1, t) (handR_sub hm)
                have h2 : k1 < W.n.getD c1 0 := this
                omega
              refine ⟨trivial, ⟨l1, t, ?_, ht⟩, rfl, ?_⟩
              · have e : (eP (some (c1, Sum.inl t2)) W.n W.p).getD c1 [] = W.p.getD c1 [] ++ [(W.n.getD c1 0, t2)] := by
                  show (W.p.set c1 _).getD c1 [] = _
                  rw [getD_set, if_pos ⟨rfl, hl⟩] <;> rfl
                rw [e]
                exact handR_snoc hm
              · show (W.p.set c1 ((W.p.getD c1 []).filter fun m => decide (m.1 ≠ k1))).set c1 ((W.p.set c1 ((W.p.getD c1 []).filter fun m => decide (m.1 ≠ k1))).getD c1 [] ++ [(W.n.getD c1 0, t2)]) = (W.p.set c1 (W.p.getD c1 [] ++ [(W.n.getD c1 0, t2)])).set c1 (((W.p.set c1 (W.p.getD c1 [] ++ [(W.n.getD c1 0, t2)])).getD c1 []).filter fun m => decide (m.1 ≠ k1))
                rw [getD_set, if_pos ⟨rfl, hl⟩, getD_set, if_pos ⟨rfl, hl⟩, List.set_set, List.set_set, List.filter_append]
                congr 2
                rw [List.filter_cons, if_pos (decide_eq_true kn)] <;> rfl
        · have g2 : (eP (some (c1, x1)) W.n W.p).getD c2 [] = W.p.getD c2 [] := by
            show (W.p.set c1 _).getD c2 [] = _
            rw [getD_set, if_neg fun z => hc z.1]
          have g1 : (eP (some (c2, x2)) W.n W.p).getD c1 [] = W.p.getD c1 [] := by
            show (W.p.set c2 _).getD c1 [] = _
            rw [getD_set, if_neg fun z => hc z.1.symm]
          have n2 : (eN (some (c1, x1)) W.n).getD c2 0 = W.n.getD c2 0 := by
            cases x1 with
            | inl t => show (W.n.set c1 _).getD c2 0 = _; rw [getD_set, if_neg fun z => hc z.1]
            | inr k => rfl
          have n1 : (eN (some (c2, x2)) W.n).getD c1 0 = W.n.getD c1 0 := by
            cases x2 with
            | inl t => show (W.n.set c2 _).getD c1 0 = _; rw [getD_set, if_neg fun z => hc z.1.symm]
            | inr k => rfl
          refine ⟨?_, ?_, ?_, ?_⟩
          · cases x2 with
            | inl t => trivial
            | inr k =>
              obtain ⟨l2, t, hm, ht⟩ := b2'
              rw [g2] at hm
              exact ⟨l2, t, hm, ht⟩
          · cases x1 with
            | inl t => trivial
            | inr k =>
              obtain ⟨l1, t, hm, ht⟩ := b1
              exact ⟨l1, t, by rw [g1]; exact hm, ht⟩
          · cases x1 with
            | inr k => rfl
            | inl t1 =>
              cases x2 with
              | inr k => rfl
              | inl t2 =>
                show (W.n.set c1 (W.n.getD c1 0 + 1)).set c2 ((W.n.set c1 (W.n.getD c1 0 + 1)).getD c2 0 + 1) = (W.n.set c2 (W.n.getD c2 0 + 1)).set c1 ((W.n.set c2 (W.n.getD c2 0 + 1)).getD c1 0 + 1)
                rw [show (W.n.set c1 (W.n.getD c1 0 + 1)).getD c2 0 = W.n.getD c2 0 from n2, show (W.n.set c2 (W.n.getD c2 0 + 1)).getD c1 0 = W.n.getD c1 0 from n1]
                exact List.set_comm _ _ hc
          · show (W.p.set c1 _).set c2 (fE x2 ((eN (some (c1, x1)) W.n).getD c2 0) ((eP (some (c1, x1)) W.n W.p).getD c2 [])) = (W.p.set c2 _).set c1 (fE x1 ((eN (some (c2, x2)) W.n).getD c1 0) ((eP (some (c2, x2)) W.n W.p).getD c1 []))
            rw [g1, g2, n1, n2]
            exact List.set_comm _ _ hc
  obtain ⟨k1, k2, k3, k4⟩ := key
  refine ⟨⟨dv2, a2', k1⟩, ⟨dv1, a1', k2⟩, ?_⟩
  show (⟨eS (effS M D2) (eS (effS M D1) W.s), _, _⟩ : Wd) = ⟨eS (effS M D1) (eS (effS M D2) W.s), _, _⟩
  rw [sc]
  show (⟨_, eN (effC M D2) (eN (effC M D1) W.n), eP (effC M D2) (eN (effC M D1) W.n) (eP (effC M D1) W.n W.p)⟩ : Wd) = _
  rw [k3, k4]
theorem WdV.run {M : MN} : ∀ {Ds : List Deed} {W : Wd} {B : Nat}, WdOk M W B → RunM M W Ds → WdV W → WdV (endW M W Ds)
  | [], _, _, _, _, v => v
  | D :: Ds, W, B, ok, h, v => WdV.run (Ds := Ds) (W := stepM M W D) (B := B + 1) (ok.step D) h.2 (v.step ok (poss_dv h.1))
theorem swap_run {M : MN} {W : Wd} {B : Nat} {xs ys : List Deed} {D1 D2 : Deed} (mn : MNet M) (ok : WdOk M W B) (v : WdV W) (h : RunM M W (xs ++ D1 :: D2 :: ys)) (ho : ownM M D1 ≠ ownM M D2) (nw : ¬ WaitsM M (endW M W xs) D1 D2) :
    RunM M W (xs ++ D2 :: D1 :: ys) ∧ endW M W (xs ++ D2 :: D1 :: ys) = endW M W (xs ++ D1 :: D2 :: ys) := by
  obtain ⟨h1, h2, h3, h4⟩ := RunM.app.mp h
  obtain ⟨d1, d2, d3⟩ := diamond mn (endW_ok (B := B + xs.length) xs ok (Nat.le_refl _)) (v.run ok h1) h2 h3 ho nw
  refine ⟨RunM.app.mpr ⟨h1, d1, d2, ?_⟩, ?_⟩
  · rw [← d3]
    exact h4
  · rw [endW_app, endW_app]
    show endW M (stepM M (stepM M (endW M W xs) D2) D1) ys = endW M (stepM M (stepM M (endW M W xs) D1) D2) ys
    rw [d3]
/-! histories -/
def rowH (M : MN) (Ds : List Deed) (p : Nat) : List Deed := Ds.filter fun D => decide (ownM M D = p)
def histM (M : MN) (Ds : List Deed) : List (List Deed) := (List.range M.ps.length).map (rowH M Ds)
theorem swap_row {M : MN} {xs ys : List Deed} {D1 D2 : Deed} (ho : ownM M D1 ≠ ownM M D2) (p : Nat) : rowH M (xs ++ D2 :: D1 :: ys) p = rowH M (xs ++ D1 :: D2 :: ys) p := by
  by_cases z1 : ownM M D1 = p
  · have z2 : ¬ ownM M D2 = p := fun z => ho (by rw [z1, z])
    simp [rowH, List.filter_append, List.filter_cons, z1, z2]
  · simp [rowH, List.filter_append, List.filter_cons, z1]
theorem swap_hist {M : MN} {xs ys : List Deed} {D1 D2 : Deed} (ho : ownM M D1 ≠ ownM M D2) : histM M (xs ++ D2 :: D1 :: ys) = histM M (xs ++ D1 :: D2 :: ys) := by
  unfold histM
  rw [show rowH M (xs ++ D2 :: D1 :: ys) = rowH M (xs ++ D1 :: D2 :: ys) from funext fun p => swap_row ho p]
def deedsD (l : List Deed) : PyData := .tuple (l.map Deed.d)
def histD (M : MN) (Ds : List Deed) : PyData := .tuple ((histM M Ds).map deedsD)
end Cw

set_option maxHeartbeats 4000000
/-! rows of lists that change -/
namespace Cw
open PySem PySem.Spec PyProof.Rows L2
structure Rw (G0 H0 G H : Hp) (n : Nat) (as : Nat → Addr) (f : Nat → List V) : Prop where
  gr : Gro none G0 H0 G H
  ga : ∀ i, i < n → G (as i) = none ∧ H (as i) = some (.lst (f i)) ∧ H0 (as i) = none
  inj : ∀ i j, i < n → j < n → as i = as j → i = j
section
variable {G0 H0 G H G2 H2 : Hp} {n i : Nat} {as : Nat → Addr} {f : Nat → List V} {vs : List V} {p : Addr} {o : HO}
theorem Rw.ww (s : Rw G0 H0 G H n as f) : Ex G H := s.gr.w
theorem Rw.g (s : Rw G0 H0 G H n as f) : Ex G0 G := s.gr.g
theorem Rw.at_ (s : Rw G0 H0 G H n as f) (hi : i < n) : H (as i) = some (.lst (f i)) := (s.ga i hi).2.1
theorem Rw.gro (s : Rw G0 H0 G H n as f) (g : Gro none G H G2 H2) : Rw G0 H0 G2 H2 n as f :=
  ⟨s.gr.trans0 g, fun i hi => ⟨g.n _ (by rw [(s.ga i hi).2.1]; exact fun z => nomatch z) (s.ga i hi).1, g.ex _ _ (s.ga i hi).2.1, (s.ga i hi).2.2⟩, s.inj⟩
theorem Rw.up (s : Rw G0 H0 G H n as f) (e : Ex H H2) : Rw G0 H0 G H2 n as f := s.gro (Gro.up s.ww e)
theorem Rw.put (s : Rw G0 H0 G H n as f) (hi : i < n) (vs : List V) : Rw G0 H0 G (L2.upd H (as i) (.lst vs)) n as (fun j => if j = i then vs else f j) := by
  obtain ⟨h1, h2, h3⟩ := s.ga i hi
  refine ⟨⟨s.gr.g, Ex.mut s.gr.w h1, fun x u z h => ?_, s.gr.n⟩, fun j hj => ?_, s.inj⟩
  · rw [upd_ne (ne_of_none h h3)]
    exact s.gr.k x u z h
  · obtain ⟨k1, k2, k3⟩ := s.ga j hj
    refine ⟨k1, ?_, k3⟩
    by_cases z : j = i
    · subst z
      rw [if_pos rfl]
      exact upd_same
    · rw [if_neg z]
      exact upd_mu k2 (fun y => z (s.inj _ _ hj hi y))
open Classical in
/-- the rows change no more -/
theorem Rw.know (s : Rw G0 H0 G H n as f) : ∃ G', Ex G G' ∧ (∀ i, i < n → G' (as i) = some (.lst (f i))) ∧ Gro none G0 H0 G' H := by
  refine ⟨fun x => if ∃ i, i < n ∧ as i = x then H x else G x, fun x u h => ?_, fun i hi => ?_, fun x u h => ?_, fun x u h => ?_, s.gr.k, fun x h z => ?_⟩
  · show (if ∃ i, i < n ∧ as i = x then H x else G x) = some u
    rw [if_neg]
    · exact h
    · rintro ⟨i, hi, rfl⟩
      rw [(s.ga i hi).1] at h
      cases h
  · show (if ∃ j, j < n ∧ as j = as i then H (as i) else G (as i)) = _
    rw [if_pos ⟨i, hi, rfl⟩]
    exact (s.ga i hi).2.1
  · show (if ∃ i, i < n ∧ as i = x then H x else G x) = some u
    rw [if_neg]
    · exact s.gr.g x u h
    · rintro ⟨i, hi, rfl⟩
      have h2 := s.gr.g _ _ h
      rw [(s.ga i hi).1] at h2
      cases h2
  · split at h
    · exact h
    · exact s.gr.w x u h
  · show (if ∃ i, i < n ∧ as i = x then H x else G x) = none
    rw [if_neg]
    · exact s.gr.n x h z
    · rintro ⟨i, hi, rfl⟩
      exact h (s.ga i hi).2.2
end
/-! [[] for _ in row] -/
section
variable {K : PySem.W.Frag} {G0 H0 G H : Hp} {g : TG} {tt : TT} {te : TE} {ws : List Nat} {σ : L2.St} {Q : VK} {v : V} {ds : List PyData}
/-- one turn makes an empty list -/
abbrev NewBody (g : TG) (tt : TT) (te : TE) (ws : List Nat) (σ : L2.St) : Prop := ∀ (u : V) (H' : Hp) (C : V → Hp → Prop) (N : Hp → Prop), (∀ p, H' p = none → C (.ref p) (L2.upd H' p (.lst []))) → g u (wipe σ ws) H' fun σ2 H2 => wipe σ2 ws = wipe σ ws ∧ tt σ2 H2 fun b H3 => if b = true then te σ2 H3 C else N H3
def RwIn (G H : Hp) (D : Addr) (i : Nat) (H' : Hp) : Prop := ∃ as, Rw G H G H' i as (fun _ => []) ∧ G D = none ∧ H' D = some (.lst ((List.range i).map fun j => V.ref (as j))) ∧ H D = none ∧ ∀ j, j < i → as j ≠ D
theorem RwIn.turn {D : Addr} {i : Nat} {u : V} {H' : Hp} (hi : i < 1000) (h : RwIn G H D i H') (body : NewBody g tt te ws σ) : g u (wipe σ ws) H' fun σ2 H2 => wipe σ2 ws = wipe σ ws ∧ tt σ2 H2 fun b H3 => if b = true then te σ2 H3 fun y H4 => ∃ acc, H4 D = some (.lst acc) ∧ acc.length < sizeLine ∧ RwIn G H D (i + 1) (L2.upd H4 D (.lst (acc ++ [y]))) else RwIn G H D (i + 1) H3 := by
  obtain ⟨as, s, gD, hD, h0, hne⟩ := h
  refine body u H' _ _ (fun p hp => ?_)
  have nDp : D ≠ p := ne_of_none hD hp
  have hHp : H p = none := s.gr.ex.back hp
  have gp : G p = none := s.ww.back hp
  have s2 := s.up (Ex.new (o := .lst []) hp)
  refine ⟨_, upd_old hD hp, line_lt (by rw [List.length_map, List.length_range]; omega), fun j => if j = i then p else as j, ⟨⟨s2.gr.g, Ex.mut s2.gr.w gD, fun x u z h => ?_, s2.gr.n⟩, fun j hj => ?_, fun j k hj hk e => ?_⟩, gD, ?_, h0, fun j hj => ?_⟩
  · rw [upd_ne (ne_of_none h h0)]
    exact s2.gr.k x u z h
  · by_cases z : j = i
    · subst z
      simp only [if_true]
      exact ⟨gp, upd_mu upd_same (Ne.symm nDp), hHp⟩
    · simp only [if_neg z]
      obtain ⟨k1, k2, k3⟩ := s2.ga j (by omega)
      exact ⟨k1, upd_mu k2 (hne j (by omega)), k3⟩
  · by_cases z : j = i
    · by_cases y : k = i
      · omega
      · simp only [if_pos z, if_neg y] at e
        have := s.at_ (show k < i by omega)
        rw [← e, hp] at this
        cases this
    · by_cases y : k = i
      · simp only [if_neg z, if_pos y] at e
        have := s.at_ (show j < i by omega)
        rw [e, hp] at this
        cases this
      · simp only [if_neg z, if_neg y] at e
        exact s.inj _ _ (by omega) (by omega) e
  · have e : (List.range i).map (fun j => V.ref (if j = i then p else as j)) = (List.range i).map (fun j => V.ref (as j)) := List.map_congr_left fun j hj => by
      have := List.mem_range.mp hj
      rw [if_neg (by omega)]
    rw [upd_same, List.range_succ, List.map_append, e]
    show some (HO.lst (_ ++ [V.ref p])) = some (HO.lst (_ ++ [V.ref (if i = i then p else as i)]))
    rw [if_pos rfl]
  · show (if j = i then p else as j) ≠ D
    by_cases z : j = i
    · rw [if_pos z]
      exact Ne.symm nDp
    · rw [if_neg z]
      exact hne j (by omega)
theorem RwIn.done {D : Addr} {n : Nat} {H' : Hp} (h : RwIn G H D n H') (q : ∀ D as G' H', Rw G H G' H' n as (fun _ => []) → G' D = some (.lst ((List.range n).map fun j => V.ref (as j))) → Q (.ref D) H') : Q (.ref D) H' := by
  obtain ⟨as, s, gD, hD, h0, hne⟩ := h
  have a : Acc D G H G H' _ := ⟨s.gr, gD, hD, h0⟩
  have hk := a.know
  refine q D as (L2.upd G D (.lst ((List.range n).map fun j => V.ref (as j)))) H' ⟨hk, fun i hi => ?_, s.inj⟩ upd_same
  obtain ⟨k1, k2, k3⟩ := s.ga i hi
  exact ⟨by rw [upd_ne (hne i hi)]; exact k1, k2, k3⟩
theorem q_newL (hv : Rp K G v (.list ds)) (x : Ex G H) (hn : ds.length ≤ 1000) (body : NewBody g tt te ws σ) (q : ∀ D as G' H', Rw G H G' H' ds.length as (fun _ => []) → G' D = some (.lst ((List.range ds.length).map fun j => V.ref (as j))) → Q (.ref D) H') : kcLst K g tt te ws σ Q v H := by
  obtain ⟨a, vs, rfl, hS, hr⟩ := rp_lst hv
  refine q_lst_lc (.inl (.inl (x _ _ hS))) (fun D hD => ⟨RwIn G H D, ⟨fun _ => 0, ⟨Gro.up x (Ex.new hD), fun i hi => absurd hi (by omega), fun i j hi => absurd hi (by omega)⟩, x.back hD, upd_same, hD, fun j hj => absurd hj (by omega)⟩, ?_, ?_, ?_⟩)
  · rintro i H' hi ⟨as, s, _⟩
    exact .inl (.inl (s.ww _ _ hS))
  · intro i u H' hu hI
    have := (List.getElem?_eq_some_iff.mp hu).1
    rw [hr.len] at this
    exact RwIn.turn (by omega) hI body
  · intro H' hI
    rw [hr.len] at hI
    exact RwIn.done hI q
theorem q_newT (hv : Rp K G v (.tuple ds)) (x : Ex G H) (hn : ds.length ≤ 1000) (body : NewBody g tt te ws σ) (q : ∀ D as G' H', Rw G H G' H' ds.length as (fun _ => []) → G' D = some (.lst ((List.range ds.length).map fun j => V.ref (as j))) → Q (.ref D) H') : kcTup K g tt te ws σ Q v H := by
  obtain ⟨a, vs, rfl, hS, hr⟩ := rp_tup hv
  refine ⟨a, rfl, ⟨vs, x.st hS⟩, fun D hD => ?_⟩
  refine lc_it (walk_tup (K := K) (a := a) (xs := vs)) (RwIn G H D) ⟨fun _ => 0, ⟨Gro.up x (Ex.new hD), fun i hi => absurd hi (by omega), fun i j hi => absurd hi (by omega)⟩, x.back hD, upd_same, hD, fun j hj => absurd hj (by omega)⟩ ?_ ?_ ?_
  · rintro i H' hi ⟨as, s, _⟩
    exact s.ww.st hS
  · rintro i u H1 H' hi hI ⟨rfl, hu⟩
    rw [hr.len] at hi
    exact RwIn.turn (by omega) hI body
  · intro H' hI
    rw [hr.len] at hI
    exact RwIn.done hI q
end
/-! for x in row, a list or a tuple -/
section
variable {K : PySem.W.Frag} {σ : L2.St} {G H : Hp} {v : V} {ds : List PyData} {g : TG} {t : TS} {D : Ends} {ta : TE}
def kSq (b : Bool) (K : PySem.W.Frag) (g : TG) (t : TS) (D : Ends) (σ : L2.St) : V → Hp → Prop := if b then kTup K g t D σ else kLst K g t D σ
theorem q_forS (b : Bool) (h : ta σ H (kSq b K g t D σ)) : tFor (iSeqA K ta) g t D σ H := by
  cases b with
  | false => exact q_forL h
  | true => exact q_forT h
theorem q_sq_for {b : Bool} (hv : Rp K G v (sqD b ds)) (x : Ex G H) (Pv : Nat → L2.St → Hp → Prop) (h0 : Pv 0 σ H) (hx : ∀ i σ' H', Pv i σ' H' → Ex G H')
    (hs : ∀ i d u σ' H', ds[i]? = some d → Pv i σ' H' → Rp K G u d → g u σ' H' fun σ2 H2 => t { D with nx := Pv (i + 1), ct := Pv (i + 1), bk := D.nx } σ2 H2)
    (hd : ∀ σ' H', Pv ds.length σ' H' → D.nx σ' H') : kSq b K g t D σ v H := by
  cases b with
  | false =>
    obtain ⟨a, vs, rfl, hS, hr⟩ := rp_lst hv
    refine q_lst_for (.inl (.inl (x _ _ hS))) Pv h0 (fun i σ' H' _ p => .inl (.inl (hx i σ' H' p _ _ hS))) (fun i u σ' H' hu p => ?_) (fun σ' H' p => hd σ' H' (by rw [← hr.len]; exact p))
    obtain ⟨d, hd', ru⟩ := hr.at hu
    exact hs i d u σ' H' hd' p ru
  | true =>
    obtain ⟨a, vs, rfl, hS, hr⟩ := rp_tup hv
    refine q_tup_for (x.st hS) Pv h0 (fun i σ' H' _ p => (hx i σ' H' p).st hS) (fun i u σ' H' hu p => ?_) (fun σ' H' p => hd σ' H' (by rw [← hr.len]; exact p))
    obtain ⟨d, hd', ru⟩ := hr.at hu
    exact hs i d u σ' H' hd' p ru
end
/-! a deed that may be done somewhere is a deed of the net; whose it is -/
theorem isD_of {M : MN} {D : Deed} (dv : DV M D) (ls : lsD M D) : isDeedD M.N D.d = true := by
  cases D with
  | act r =>
    obtain ⟨a, ha, hn⟩ := dv
    obtain ⟨hr, ea⟩ := map_at ha
    rw [act_deed (d := (Deed.act r).d) (i := (r : Int)) (.inr rfl), show wordD M.N (.int (r : Int)) = _ from word_rule hr, ea]
    cases a with
    | do_ => decide +kernel
    | send c k => show ([PyData.str "do", .str "send"].any fun k => PyData.eqv k (.str "send")) = true; decide +kernel
    | take c k => exact absurd rfl (hn c k)
  | take r k =>
    obtain ⟨c, t, ha⟩ := dv
    obtain ⟨hr, ea⟩ := map_at ha
    rw [three_deed (d := (Deed.take r k).d) (w := "take") (i := (r : Int)) (k := (k : Int)) (by omega) (.inr rfl), if_pos (str_eqv _), show wordD M.N (.int (r : Int)) = _ from word_rule hr, ea]
    exact str_eqv _
  | lose c k =>
    have hc : c < M.C.length := dv
    rw [three_deed (d := (Deed.lose c k).d) (w := "lose") (i := (c : Int)) (k := (k : Int)) (by omega) (.inr rfl), if_neg (by decide +kernel), str_eqv, Bool.true_and, show isBelow M.N.c.length (.int (c : Int)) = true from below_of (by omega) (by show (c : Int) < ((M.C.map Chn.d).length : Nat); rw [List.length_map]; omega), Bool.true_and]
    have e : atD (chanAt M.N (natD (.int (c : Int)))) 3 = .str (kindM M c) := by
      show atD ((M.C.map Chn.d).getD c .none) 3 = _
      rw [List.getD_eq_getElem?_getD, List.getElem?_map, List.getElem?_eq_getElem hc, kindM_at hc] <;> rfl
    rw [e]
    exact ls
theorem isD_sqd (M : MN) (b : Bool) (D : Deed) : isDeedD M.N (sqd b D) = isDeedD M.N D.d := by
  cases b <;> rfl
theorem own_sqd {M : MN} {D : Deed} (dv : DV M D) (b : Bool) : ownerD M.N (sqd b D) = nD (ownM M D) := by
  have e : ownerD M.N (sqd b D) = ownerD M.N D.d := by cases b <;> rfl
  rw [e]
  cases D with
  | lose c k =>
    have hc : c < M.C.length := dv
    show (if PyData.eqv (.str "lose") (.str "lose") = true then atD ((M.C.map Chn.d).getD c .none) 2 else _) = _
    rw [if_pos (str_eqv _), List.getD_eq_getElem?_getD, List.getElem?_map, List.getElem?_eq_getElem hc]
    simp only [ownM, List.getElem?_eq_getElem hc]
    rfl
  | act r =>
    obtain ⟨a, ha, _⟩ := dv
    obtain ⟨hr, _⟩ := map_at ha
    show (if PyData.eqv (.str "act") (.str "lose") = true then _ else atD ((M.R.map Rul.d).getD r .none) 0) = _
    rw [if_neg (by decide +kernel), List.getD_eq_getElem?_getD, List.getElem?_map, List.getElem?_eq_getElem hr]
    simp only [ownM, List.getElem?_eq_getElem hr]
    rfl
  | take r k =>
    obtain ⟨c, t, ha⟩ := dv
    obtain ⟨hr, _⟩ := map_at ha
    show (if PyData.eqv (.str "take") (.str "lose") = true then _ else atD ((M.R.map Rul.d).getD r .none) 0) = _
    rw [if_neg (by decide +kernel), List.getD_eq_getElem?_getD, List.getElem?_map, List.getElem?_eq_getElem hr]
    simp only [ownM, List.getElem?_eq_getElem hr]
    rfl
theorem ls_poss {M : MN} {W : Wd} {D : Deed} (h : D ∈ possM M W) : lsD M D := by
  have h2 := (poss_eff.mp h).2.2
  cases D with
  | lose c k => exact h2.1
  | act r => trivial
  | take r k => trivial
theorem RunM.dv {M : MN} : ∀ {Ds : List Deed} {W : Wd}, RunM M W Ds → ∀ D ∈ Ds, DV M D ∧ lsD M D
  | D :: Ds, W, h, x, hx => by
    rcases List.mem_cons.mp hx with rfl | hx
    · exact ⟨poss_dv h.1, ls_poss h.1⟩
    · exact RunM.dv h.2 x hx
theorem rowH_snoc (M : MN) (Ds : List Deed) (D : Deed) (p : Nat) : rowH M (Ds ++ [D]) p = if p = ownM M D then rowH M Ds p ++ [D] else rowH M Ds p := by
  unfold rowH
  rw [List.filter_append]
  by_cases z : p = ownM M D
  · subst z
    simp
  · simp [z, Ne.symm z]
theorem rowH_len (M : MN) (Ds : List Deed) (p : Nat) : (rowH M Ds p).length ≤ Ds.length := List.length_filter_le _ _
/-- the rows known, as data -/
theorem rows_rp {K : PySem.W.Frag} {G : Hp} {D : Addr} {n : Nat} {as : Nat → Addr} {f : Nat → List V} {g : Nat → List PyData} (hD : G D = some (.lst ((List.range n).map fun j => V.ref (as j)))) (hf : ∀ i, i < n → G (as i) = some (.lst (f i))) (hr : ∀ i, i < n → Rps K G (f i) (g i)) : Rp K G (.ref D) (.list ((List.range n).map fun i => .list (g i))) := by
  refine .lst hD ?_
  clear hD
  induction n with
  | zero => exact .nil
  | succ n ih =>
    rw [List.range_succ, List.map_append, List.map_append]
    exact (ih (fun i hi => hf i (by omega)) (fun i hi => hr i (by omega))).app (Rps.one (.lst (hf n (by omega)) (hr n (by omega))))
/-- range(j), j a number or less than nought -/
theorem q_rngI {σ : L2.St} {H : Hp} {g : TG} {t : TS} {D : Ends} {j : Int} (n : Nat) (hj : j.toNat = n) (hj1 : -(2 ^ 62) ≤ j) (hn : n ≤ 1000000) (Pv : Nat → L2.St → Hp → Prop) (h0 : Pv 0 σ H) (hs : ∀ i σ' H', i < n → Pv i σ' H' → g (.int i) σ' H' fun σ2 H2 => t { D with nx := Pv (i + 1), ct := Pv (i + 1), bk := D.nx } σ2 H2)
    (hd : ∀ σ' H', Pv n σ' H' → D.nx σ' H') : kRng1 g t D σ [.int j] H := by
  obtain ⟨k, e, k1, k2, w⟩ := q_rng1 n hn Pv h0 hs hd
  cases e
  refine ⟨j, rfl, hj1, by omega, ?_⟩
  rw [hj]
  rw [Int.toNat_natCast] at w
  exact w
theorem told_run {M : MN} (b : Bool) (Ds : List Deed) : (startM M).d true :: worldsM M (startM M) (Ds.map (sqd b)) (Ds.map (sqd b)).length = (startM M :: runW M (startM M) Ds).map fun X => X.d true := by
  rw [List.length_map, worlds_run] <;> rfl
end Cw

set_option maxHeartbeats 4000000
/-! tuple[::-1]; slices of rows as data; comprehensions of two clauses; sums -/
namespace PySem.W
open PySem PySem.Spec PySem.Calls PyProof.Rows HT
section
variable {prog : Program} {w : World} {A : Around} {E : Value → Shared → Prop} {s : Shared}
theorem cw_revPick (xs : Array Value) : ((List.range xs.size).filterMap fun (k : Nat) => xs[(((xs.size : Int) - 1) + (k : Int) * (-1)).toNat]?).toArray = xs.toList.reverse.toArray := by
  congr 1
  have key : ∀ n, n ≤ xs.size → (List.range n).filterMap (fun (k : Nat) => xs[(((xs.size : Int) - 1) + (k : Int) * (-1)).toNat]?) = (xs.toList.drop (xs.size - n)).reverse := by
    intro n
    induction n with
    | zero => intro _; simp
    | succ n ih =>
      intro h
      rw [List.range_succ, List.filterMap_append, ih (by omega)]
      have e : (((xs.size : Int) - 1) + (n : Int) * (-1)).toNat = xs.size - (n + 1) := by omega
      have hl : xs.size - (n + 1) < xs.toList.length := by rw [Array.length_toList]; omega
      have hl2 : xs.size - (n + 1) < xs.size := by omega
      rw [List.drop_eq_getElem_cons hl, List.reverse_cons]
      have e2 : xs.size - (n + 1) + 1 = xs.size - n := by omega
      rw [e2]
      congr 1
      simp only [List.filterMap_cons, List.filterMap_nil, e, Array.getElem?_eq_getElem hl2, Array.getElem_toList]
  have h := key xs.size (Nat.le_refl _)
  rw [Nat.sub_self, List.drop_zero] at h
  exact h
theorem cw_applied_rev {sl : Addr} {u : Tok} {n : Nat} {Q : Int × Int × Nat → Shared → Prop} (hs : s.heap.IsSliceOf sl .none .none (.int (-1) u)) (h : Q ((n : Int) - 1, -1, n) s) : wpAny (model prog w) A (Builtin.Slice.sliceApplied (.ref sl) (pure (n : Int))) Q E s := by
  obtain ⟨os, hos, hcs, hds⟩ := id hs
  unfold Builtin.Slice.sliceApplied Builtin.Slice.sliceFields
  refine wpAny_bind (wpAny_bind (wpAny_field hos hds (x := .none) rfl (wpAny_bind (wpAny_field hos hds (x := .none) rfl (wpAny_bind (wpAny_field hos hds (x := .int (-1) u) rfl (wpAny_pure ?_)))))))
  refine wpAny_bind (slicePart_ (.int (-1) u) ?_)
  show wpAny _ _ (if ((-1 : Int) == 0) = true then _ else _) _ _ s
  rw [if_neg (by decide)]
  refine wpAny_bind (slicePart_ .none (wpAny_bind (slicePart_ .none (wpAny_bind (wpAny_pure ?_)))))
  show wpAny _ _ (pure ((n : Int) - 1, (-1 : Int), Builtin.Slice.slicePlaces ((n : Int) - 1) (-1) (-1))) _ _ s
  have e : Builtin.Slice.slicePlaces ((n : Int) - 1) (-1) (-1) = n := by
    unfold Builtin.Slice.slicePlaces
    rw [if_neg (by decide)]
    split
    · rw [show (-(-1) : Int) = 1 by decide, Int.ediv_one]
      omega
    · omega
  rw [e]
  exact wpAny_pure h
theorem cw_getItem_rev {t sl : Addr} {items : Array Value} {u : Tok} {Q : Value → Shared → Prop} (ht : IsTup s.heap t items) (hs : s.heap.IsSliceOf sl .none .none (.int (-1) u))
    (h : Q (.ref s.heap.objs.size) { s with heap := s.heap.push { cls := .type "tuple", data := .seq items.toList.reverse.toArray } })
    (hsz : items.size ≤ sizeLine) : wpAny (model prog w) A (getItem (.ref t) (.ref sl)) Q E s := by
  have htake : sizeOk (.seq items.toList.reverse.toArray) := by
    show items.toList.reverse.toArray.size ≤ sizeLine
    rw [List.size_toArray, List.length_reverse, Array.length_toList]
    exact hsz
  obtain ⟨os, hos, hcs, hds⟩ := id hs
  have hTs : s.TypeIs (.ref sl) "slice" := ⟨os, hos, hcs⟩
  unfold getItem
  try with_reducible refine wpAny_holding ?_
  first | refine wpAny_bind (wpAny_pure ?_) | skip
  refine wpAny_bind (wpAny_sequenceKey ht.typeIs (by decide) ?_)
  refine wpAny_bind (wpAny_callSpecial?_slot (name := Str.ofString "__getitem__") ht.typeIs PyProof.Rows.slot_tuple_getitem
    (wpAny_call_entry PyProof.Rows.slot_tuple_getitem ht.typeIs entry_tuple_getitem ?_ (args_tuple_getitem _ _)))
  show wpAny _ _ (Builtin.Tuple.tupleItemsOf (.ref t) >>= _) _ _ s
  refine wpAny_bind (tupleItemsOf_ ht ?_)
  refine wpAny_bind (wpAny_typeOf hTs ?_)
  rw [if_pos (by decide)]
  refine wpAny_bind (cw_applied_rev hs ?_)
  show wpAny _ _ (if (((items.size : Int) - 1 == 0 && (-1 : Int) == 1 && items.size == items.size) = true) then _ else _) _ _ s
  rw [if_neg (by rw [show ((-1 : Int) == 1) = false by decide, Bool.and_false, Bool.false_and]; decide), cw_revPick]
  first
    | exact wpAny_bind (m := Builtin.Tuple.tupleExact _) (wpAny_newObj_type (wpAny_pure ⟨_, rfl, wpAny_pure h⟩) htake)
    | exact wpAny_bind (m := Builtin.Tuple.tupleExact _) (wpAny_newObj_type (wpAny_bind (wpAny_pure (wpAny_pure ⟨_, rfl, wpAny_pure h⟩))) htake)
    | exact wpAny_bind (wpAny_bind (m := Builtin.Tuple.tupleExact _) (wpAny_newObj_type (wpAny_pure (wpAny_pure ⟨_, rfl, wpAny_pure h⟩)) htake))
    | exact wpAny_bind (wpAny_bind (m := Builtin.Tuple.tupleExact _) (wpAny_newObj_type (wpAny_pure ⟨_, rfl, wpAny_pure h⟩) htake))
end
end PySem.W
namespace Cw
open PySem PySem.Spec PyProof.Rows L2
def tRevT (K : PySem.W.Frag) (te : TE) : TE := fun σ H Q => te σ H fun x H1 => ∃ a xs, x = .ref a ∧ SqT K H1 a xs ∧ ∀ p, H1 p = none → Q (.ref p) (L2.upd H1 p (.tup xs.reverse))
theorem pe_revTK {X : Cx} {K : PySem.W.Frag} {e : Expr} {te : TE} {k : Nat} {p1 p2 p3 pos : Pos} (hK : X.K = K) (he : PE X e te) : PE X (.Subscript e (.Slice none none (some (.UnaryOp .USub (.Constant (.int 1) k p1) p2)) p3) pos) (tRevT K te) := by
  subst hK
  refine ⟨fun pins s σ H Q I h => ?_⟩
  refine Subscript_ (thn (he.run pins s σ H _ I h) fun v s1 ⟨x, H1, I1, r1, q1⟩ => ?_)
  obtain ⟨a, xs, ex, hx, q⟩ := q1
  subst ex
  cases r1
  have hst : PO X (some (.UnaryOp .USub (.Constant (.int 1) k p1) p2)) (tPart (tUn (rU fun i => .int (-i)) (tC (.int 1)))) := po_some (pe_un un_neg pe_int)
  refine wpAny_Slice (thn (po_none.run pins s1 σ H1 (fun o H2 => o = none ∧ H2 = H1) I1 ⟨rfl, rfl⟩) fun vl s2 ⟨l, H2, I2, pl, el, e2⟩ => ?_)
  subst el e2
  refine thn (po_none.run pins s2 σ H2 (fun o H3 => o = none ∧ H3 = H2) I2 ⟨rfl, rfl⟩) fun vu s3 ⟨u, H3, I3, pu, eu, e3⟩ => ?_
  subst eu e3
  refine thn (hst.run pins s3 σ H3 (fun o H4 => o = some (-1) ∧ H4 = H3) I3 ⟨1, rfl, -1, rfl, rfl, rfl⟩) fun vs s4 ⟨o, H4, I4, ps, eo, e4⟩ => ?_
  subst eo e4
  cases pl
  cases pu
  cases ps with
  | int i t =>
  have I5 : Inv X pins σ H4 { s4 with heap := s4.heap.push { cls := .type "slice", data := .fields #[.none, .none, .int (-1) t] } } := I4.kept (t' := s4.toks) fun b ob q => Heap.get?_push_of_some _ q
  obtain ⟨its, r, ht, hz⟩ := I5.tuple hx
  have hlen := r.length
  show wpAny (model X.prog X.w) X.A (subscriptTail e (.Slice none none (some (.UnaryOp .USub (.Constant (.int 1) k p1) p2)) p3) (.ref a) (.ref s4.heap.objs.size)) (EP X pins σ Q) X.xe { s4 with heap := s4.heap.push { cls := .type "slice", data := .fields #[.none, .none, .int (-1) t] } }
  refine tail_any (ops := [.ref a, .ref s4.heap.objs.size]) ht.typeIs (PyProof.Rows.slot_tuple_getitem.lookup) ?_ (by with_unfolding_all rfl)
  refine PySem.W.cw_getItem_rev ht (Heap.IsSliceOf.new _ .none .none (.int (-1) t)) ?_ (by rw [List.size_toArray]; omega)
  refine ⟨.ref _, _, I5.laid (t' := s4.toks) (o := .tup xs.reverse) (fun b ob q => Heap.get?_push_of_some _ q) (Nat.le_refl _) ?_, rfl, q _ (I5.hok.fresh (Nat.le_refl _))⟩
  exact ⟨by rw [List.length_reverse]; exact hz, _, r.reverse, ⟨_, Heap.get?_push_size _ rfl, rfl, _, rfl⟩⟩
end Cw

set_option maxHeartbeats 4000000
/-! the walk in which the least process that can goes first -/
namespace Cw
open PySem PySem.Spec PyProof.Rows L2
/-! two deeds of unlike processes that can both be done -/
theorem both {M : MN} {W : Wd} {B : Nat} {D1 D2 : Deed} (mn : MNet M) (ok : WdOk M W B) (v : WdV W) (h1 : D1 ∈ possM M W) (h2 : D2 ∈ possM M W) (ho : ownM M D1 ≠ ownM M D2) :
    D2 ∈ possM M (stepM M W D1) ∧ D1 ∈ possM M (stepM M W D2) ∧ stepM M (stepM M W D1) D2 = stepM M (stepM M W D2) D1 := by
  have dv1 := poss_dv h1
  have dv2 := poss_dv h2
  have hs : ∀ p1 s1 t1 p2 s2 t2, effS M D1 = some (p1, s1, t1) → effS M D2 = some (p2, s2, t2) → p1 ≠ p2 := fun p1 s1 t1 p2 s2 t2 a b z => ho (by rw [own_s a, own_s b, z])
  obtain ⟨_, a2, b2⟩ := poss_eff.mp h2
  have nw : ¬ WaitsM M W D1 D2 := fun ⟨c, t, k, e1, e2, e3⟩ => by
    unfold cP at b2
    rw [e2] at b2
    obtain ⟨_, tk, hm, _⟩ := b2
    have := v c (k, tk) (handR_sub hm)
    have h3 : k < W.n.getD c 0 := this
    omega
  have key : D2 ∈ possM M (stepM M W D1) := by
    rw [poss_eff, step_eff (W := W) dv1]
    refine ⟨dv2, (cS_other hs W.s).mpr a2, ?_⟩
    show cP M D2 (eP (effC M D1) W.n W.p)
    unfold cP at b2 ⊢
    cases q2 : effC M D2 with
    | none => trivial
    | some y2 =>
      obtain ⟨c2, x2⟩ := y2
      cases x2 with
      | inl t => trivial
      | inr k =>
        rw [q2] at b2
        obtain ⟨l2, t, hm, ht⟩ := b2
        refine ⟨l2, t, ?_, ht⟩
        cases q1 : effC M D1 with
        | none => exact hm
        | some y1 =>
          obtain ⟨c1, x1⟩ := y1
          show (k, t) ∈ handR (kindM M c2) ((W.p.set c1 _).getD c2 [])
          rw [getD_set]
          by_cases z : c1 = c2 ∧ c2 < W.p.length
          · rw [if_pos z]
            obtain ⟨rfl, _⟩ := z
            cases x1 with
            | inl t1 => exact handR_snoc hm
            | inr k1 =>
              obtain ⟨x, p1, p2⟩ := own_gone mn dv1 q1
              obtain ⟨y, r1, r2⟩ := own_gone mn dv2 q2
              rw [p1] at r1
              cases r1
              exact absurd (p2.symm.trans r2) ho
          · rw [if_neg z]
            exact hm
  obtain ⟨_, d2, d3⟩ := diamond mn ok v h1 key ho nw
  exact ⟨key, d2, d3⟩
/-- a deed that can be done goes ahead of others' -/
theorem to_front {M : MN} {D : Deed} {ys : List Deed} (mn : MNet M) : ∀ {xs : List Deed} {W : Wd} {B : Nat}, WdOk M W B → WdV W → RunM M W (xs ++ D :: ys) → D ∈ possM M W → (∀ X ∈ xs, ownM M X ≠ ownM M D) → RunM M W (D :: (xs ++ ys)) ∧ endW M W (D :: (xs ++ ys)) = endW M W (xs ++ D :: ys)
  | [], W, B, ok, v, h, _, _ => ⟨h, rfl⟩
  | X :: xs, W, B, ok, v, h, hD, ho => by
    obtain ⟨hX, hr⟩ := h
    obtain ⟨b1, b2, b3⟩ := both mn ok v hX hD (ho X (List.mem_cons_self ..))
    obtain ⟨i1, i2⟩ := to_front mn (xs := xs) (ok.step X) (v.step ok (poss_dv hX)) hr b1 fun Y hY => ho Y (List.mem_cons_of_mem _ hY)
    refine ⟨⟨hD, b2, ?_⟩, ?_⟩
    · rw [← b3]
      exact i1.2
    · show endW M (stepM M (stepM M W D) X) (xs ++ ys) = endW M (stepM M W X) (xs ++ D :: ys)
      rw [← b3, ← i2]
      rfl
theorem can_mem {M : MN} {W : Wd} {D : Deed} : canD M W D.d = true ↔ D ∈ possM M W := by
  constructor
  · intro h
    have hp : plainD D.d = true := by cases D <;> rfl
    obtain ⟨D', hm, hs⟩ := can_poss hp h
    rw [← deed_seq hs]
    exact hm
  · exact poss_can
def tot (T : List (List Deed)) : Nat := (T.map List.length).sum
def getT (T : List (List Deed)) (cs : List Nat) (p : Nat) : Option Deed := (T.getD p [])[cs.getD p 0]?
def cand (M : MN) (W : Wd) (T : List (List Deed)) (cs : List Nat) (o : Bool) (p : Nat) : Bool := match getT T cs p with
  | some D => canD M W D.d && (!o || decide (ownM M D = p))
  | none => false
def next (M : MN) (W : Wd) (T : List (List Deed)) (cs : List Nat) (o : Bool) : Option Nat := (List.range T.length).find? (cand M W T cs o)
def gw (M : MN) (W0 : Wd) (T : List (List Deed)) (cs0 : List Nat) (o : Bool) : Nat → List Deed × List Nat
  | 0 => ([], cs0)
  | k + 1 => match next M (endW M W0 (gw M W0 T cs0 o k).1) T (gw M W0 T cs0 o k).2 o with
    | none => gw M W0 T cs0 o k
    | some p => match getT T (gw M W0 T cs0 o k).2 p with
      | some D => ((gw M W0 T cs0 o k).1 ++ [D], (gw M W0 T cs0 o k).2.set p ((gw M W0 T cs0 o k).2.getD p 0 + 1))
      | none => gw M W0 T cs0 o k
theorem next_some {M : MN} {W : Wd} {T : List (List Deed)} {cs : List Nat} {o : Bool} {p : Nat} (h : next M W T cs o = some p) : p < T.length ∧ ∃ D, getT T cs p = some D ∧ canD M W D.d = true ∧ (o = true → ownM M D = p) := by
  have h1 := List.find?_some h
  have h2 := List.mem_of_find?_eq_some h
  refine ⟨List.mem_range.mp h2, ?_⟩
  unfold cand at h1
  cases e : getT T cs p with
  | none => rw [e] at h1; cases h1
  | some D =>
    rw [e] at h1
    obtain ⟨a, b⟩ := bA h1
    refine ⟨D, rfl, a, fun ho => ?_⟩
    rw [ho] at b
    simpa using b
theorem next_none {M : MN} {W : Wd} {T : List (List Deed)} {cs : List Nat} {o : Bool} (h : next M W T cs o = none) : ∀ p, p < T.length → cand M W T cs o p = false := fun p hp => by
  have := List.find?_eq_none.mp h p (List.mem_range.mpr hp)
  simpa using this
/-- what stands between two turns -/
structure GwI (M : MN) (W0 : Wd) (T : List (List Deed)) (cs0 : List Nat) (Es : List Deed) (cs : List Nat) : Prop where
  run : RunM M W0 Es
  len : cs.length = T.length
  le : ∀ p, p < T.length → cs.getD p 0 ≤ (T.getD p []).length
  ge : ∀ p, p < T.length → cs0.getD p 0 ≤ cs.getD p 0
  row : ∀ p, p < T.length → rowH M Es p = ((T.getD p []).take (cs.getD p 0)).drop (cs0.getD p 0)
  own : ∀ D ∈ Es, ownM M D < T.length
  sum : cs.sum = cs0.sum + Es.length
theorem sum_set {cs : List Nat} {p : Nat} (h : p < cs.length) : (cs.set p (cs.getD p 0 + 1)).sum = cs.sum + 1 := by
  induction cs generalizing p with
  | nil => simp at h
  | cons c r ih =>
    cases p with
    | zero =>
      show (c + 1) + r.sum = c + r.sum + 1
      omega
    | succ p =>
      have := ih (p := p) (by simpa using h)
      show c + (r.set p (r.getD p 0 + 1)).sum = c + r.sum + 1
      omega
theorem GwI.turn {M : MN} {W0 : Wd} {T : List (List Deed)} {cs0 Es_cs : List Nat} {Es : List Deed} {p : Nat} {D : Deed} (g : GwI M W0 T cs0 Es Es_cs) (hp : p < T.length) (hD : getT T Es_cs p = some D) (hc : canD M (endW M W0 Es) D.d = true) (ho : ownM M D = p) : GwI M W0 T cs0 (Es ++ [D]) (Es_cs.set p (Es_cs.getD p 0 + 1)) := by
  obtain ⟨hk, eD⟩ := List.getElem?_eq_some_iff.mp (show (T.getD p [])[Es_cs.getD p 0]? = some D from hD)
  have gset : ∀ q, (Es_cs.set p (Es_cs.getD p 0 + 1)).getD q 0 = if p = q then Es_cs.getD p 0 + 1 else Es_cs.getD q 0 := fun q => by
    rw [getD_set]
    by_cases z : p = q
    · rw [if_pos z, if_pos ⟨z, by rw [g.len, ← z]; exact hp⟩]
    · rw [if_neg z, if_neg fun y => z y.1]
  refine ⟨RunM.app.mpr ⟨g.run, can_mem.mp hc, trivial⟩, by rw [List.length_set]; exact g.len, fun q hq => ?_, fun q hq => ?_, fun q hq => ?_, fun X hX => ?_, ?_⟩
  · rw [gset]
    split
    · rename_i z
      subst z
      omega
    · exact g.le q hq
  · rw [gset]
    have := g.ge q hq
    split
    · rename_i z
      subst z
      omega
    · exact this
  · rw [rowH_snoc, gset, ho]
    by_cases z : q = p
    · subst z
      rw [if_pos rfl, if_pos rfl, g.row q hq, List.take_add_one]
      have h1 : (T.getD q [])[Es_cs.getD q 0]? = some D := hD
      rw [h1, Option.toList_some, List.drop_append_of_le_length]
      rw [List.length_take]
      have := g.ge q hq
      omega
    · rw [if_neg z, if_neg (Ne.symm z)]
      exact g.row q hq
  · rcases List.mem_append.mp hX with h | h
    · exact g.own X h
    · rw [List.mem_singleton.mp h, ho]
      exact hp
  · rw [sum_set (by rw [g.len]; exact hp), g.sum, List.length_append]
    simp only [List.length_cons, List.length_nil]
    omega
/-- every deed stands in the row of its own process, or is asked for that -/
def OwnT (M : MN) (T : List (List Deed)) (o : Bool) : Prop := o = true ∨ ∀ p, ∀ D ∈ T.getD p [], ownM M D = p
theorem own_at {M : MN} {W : Wd} {T : List (List Deed)} {cs : List Nat} {o : Bool} (h : OwnT M T o) {p : Nat} {D : Deed} (hn : next M W T cs o = some p) (hD : getT T cs p = some D) : ownM M D = p := by
  obtain ⟨_, D', e, _, h2⟩ := next_some hn
  rw [hD] at e
  cases e
  rcases h with h | h
  · exact h2 h
  · exact h p D (List.mem_of_getElem? hD)
theorem gw_next {M : MN} {W0 : Wd} {T : List (List Deed)} {cs0 : List Nat} {o : Bool} {k p : Nat} {D : Deed} (h : next M (endW M W0 (gw M W0 T cs0 o k).1) T (gw M W0 T cs0 o k).2 o = some p) (hD : getT T (gw M W0 T cs0 o k).2 p = some D) : gw M W0 T cs0 o (k + 1) = ((gw M W0 T cs0 o k).1 ++ [D], (gw M W0 T cs0 o k).2.set p ((gw M W0 T cs0 o k).2.getD p 0 + 1)) := by
  rw [gw, h]
  simp only [hD]
theorem gw_stop {M : MN} {W0 : Wd} {T : List (List Deed)} {cs0 : List Nat} {o : Bool} {k : Nat} (h : next M (endW M W0 (gw M W0 T cs0 o k).1) T (gw M W0 T cs0 o k).2 o = none) : ∀ j, k ≤ j → gw M W0 T cs0 o j = gw M W0 T cs0 o k := by
  intro j hj
  obtain ⟨i, rfl⟩ := Nat.exists_eq_add_of_le hj
  clear hj
  induction i with
  | zero => rfl
  | succ i ih =>
    rw [Nat.add_succ, gw, ih, h]
theorem gw_inv {M : MN} {W0 : Wd} {T : List (List Deed)} {cs0 : List Nat} {o : Bool} (ho : OwnT M T o) (hl : cs0.length = T.length) (hle : ∀ p, p < T.length → cs0.getD p 0 ≤ (T.getD p []).length) : ∀ k, GwI M W0 T cs0 (gw M W0 T cs0 o k).1 (gw M W0 T cs0 o k).2
  | 0 => ⟨trivial, hl, hle, fun p _ => Nat.le_refl _, fun p hp => by
      show [] = _
      have h : ((T.getD p []).take (cs0.getD p 0)).drop (cs0.getD p 0) = [] := by
        rw [List.drop_eq_nil_iff, List.length_take]
        omega
      exact h.symm, fun D hD => (by cases hD), by show cs0.sum = cs0.sum + 0; rfl⟩
  | k + 1 => by
    have ih := gw_inv (W0 := W0) ho hl hle k
    cases e : next M (endW M W0 (gw M W0 T cs0 o k).1) T (gw M W0 T cs0 o k).2 o with
    | none =>
      rw [gw_stop e (k + 1) (Nat.le_succ k)]
      exact ih
    | some p =>
      obtain ⟨hp, D, hD, hc, _⟩ := next_some e
      rw [gw_next e hD]
      exact ih.turn hp hD hc (own_at ho e hD)
theorem sum_le : ∀ {cs : List Nat} {T : List (List Deed)}, cs.length = T.length → (∀ p, p < T.length → cs.getD p 0 ≤ (T.getD p []).length) → cs.sum ≤ tot T ∧ (cs.sum = tot T → ∀ p, p < T.length → cs.getD p 0 = (T.getD p []).length)
  | [], [], _, _ => ⟨Nat.le_refl _, fun _ p h => absurd h (by simp)⟩
  | [], _ :: _, h, _ => by cases h
  | _ :: _, [], h, _ => by cases h
  | c :: cs, t :: T, h, hp => by
    obtain ⟨i1, i2⟩ := sum_le (cs := cs) (T := T) (by simpa using h) fun p hq => hp (p + 1) (by simpa using hq)
    have h0 : c ≤ t.length := hp 0 (by simp)
    constructor
    · show c + cs.sum ≤ t.length + tot T
      omega
    · intro e p hq
      have e2 : c + cs.sum = t.length + tot T := e
      cases p with
      | zero => show c = t.length; omega
      | succ p => exact i2 (by omega) p (by simpa using hq)
theorem GwI.bound {M : MN} {W0 : Wd} {T : List (List Deed)} {cs0 cs : List Nat} {Es : List Deed} (g : GwI M W0 T cs0 Es cs) : cs0.sum + Es.length ≤ tot T ∧ (cs0.sum + Es.length = tot T → ∀ p, p < T.length → cs.getD p 0 = (T.getD p []).length) := by
  have h := sum_le g.len g.le
  rw [g.sum] at h
  exact h
theorem gw_len (M : MN) (W0 : Wd) (T : List (List Deed)) (cs0 : List Nat) (o : Bool) : ∀ k, (gw M W0 T cs0 o k).1.length ≤ k
  | 0 => Nat.le_refl _
  | k + 1 => by
    have ih := gw_len M W0 T cs0 o k
    cases e : next M (endW M W0 (gw M W0 T cs0 o k).1) T (gw M W0 T cs0 o k).2 o with
    | none => rw [gw_stop e (k + 1) (Nat.le_succ k)]; omega
    | some p =>
      obtain ⟨hp, D, hD, hc, _⟩ := next_some e
      rw [gw_next e hD, List.length_append]
      simp only [List.length_cons, List.length_nil]
      omega
/-- without asking whose, where all are their own -/
theorem cand_own {M : MN} {W : Wd} {T : List (List Deed)} {cs : List Nat} {p : Nat} (h : ∀ p, ∀ D ∈ T.getD p [], ownM M D = p) : cand M W T cs false p = cand M W T cs true p := by
  unfold cand
  cases e : getT T cs p with
  | none => rfl
  | some D =>
    have := h p D (List.mem_of_getElem? e)
    simp only [decide_eq_true this, Bool.not_false, Bool.not_true, Bool.true_or, Bool.false_or]
theorem next_own {M : MN} {W : Wd} {T : List (List Deed)} {cs : List Nat} (h : ∀ p, ∀ D ∈ T.getD p [], ownM M D = p) : next M W T cs false = next M W T cs true := by
  unfold next
  rw [show cand M W T cs false = cand M W T cs true from funext fun p => cand_own h]
theorem gw_own {M : MN} {W0 : Wd} {T : List (List Deed)} {cs0 : List Nat} (h : ∀ p, ∀ D ∈ T.getD p [], ownM M D = p) : ∀ k, gw M W0 T cs0 false k = gw M W0 T cs0 true k
  | 0 => rfl
  | k + 1 => by rw [gw, gw, gw_own h k, next_own h]
theorem take_drop_one {α : Type} {l : List α} {k : Nat} {x : α} (h : l[k]? = some x) : l.drop k = x :: l.drop (k + 1) := by
  obtain ⟨hk, e⟩ := List.getElem?_eq_some_iff.mp h
  rw [List.drop_eq_getElem_cons hk, e]
theorem first_own {M : MN} {p : Nat} {D : Deed} {r : List Deed} : ∀ {Ds : List Deed}, rowH M Ds p = D :: r → ∃ xs ys, Ds = xs ++ D :: ys ∧ (∀ X ∈ xs, ownM M X ≠ p) ∧ ownM M D = p ∧ rowH M (xs ++ ys) p = r
  | [], h => by cases h
  | E :: Ds, h => by
    unfold rowH at h
    rw [List.filter_cons] at h
    by_cases z : ownM M E = p
    · rw [if_pos (decide_eq_true z)] at h
      cases h
      exact ⟨[], Ds, rfl, fun X hX => (by cases hX), z, rfl⟩
    · rw [if_neg (by rw [decide_eq_false z]; decide)] at h
      obtain ⟨xs, ys, e, hx, ho, hr⟩ := first_own (Ds := Ds) h
      refine ⟨E :: xs, ys, by rw [e] <;> rfl, fun X hX => ?_, ho, ?_⟩
      · rcases List.mem_cons.mp hX with rfl | hX
        · exact z
        · exact hx X hX
      · unfold rowH at hr ⊢
        rw [List.cons_append, List.filter_cons, if_neg (by rw [decide_eq_false z]; decide)]
        exact hr
theorem row_other {M : MN} {xs ys : List Deed} {D : Deed} {p : Nat} (h : ownM M D ≠ p) : rowH M (xs ++ D :: ys) p = rowH M (xs ++ ys) p := by
  unfold rowH
  rw [List.filter_append, List.filter_append, List.filter_cons, if_neg (by rw [decide_eq_false h]; decide)]
/-- the walk comes to the end of each history -/
theorem gw_full {M : MN} {W0 : Wd} {B : Nat} {T : List (List Deed)} {cs0 : List Nat} {Ds : List Deed} {o : Bool} (mn : MNet M) (ok : WdOk M W0 B) (v : WdV W0) (ho : OwnT M T o) (hT : T.length = M.ps.length) (hl : cs0.length = T.length) (hle : ∀ p, p < T.length → cs0.getD p 0 ≤ (T.getD p []).length)
    (hR : RunM M W0 Ds) (hrow : ∀ p, p < T.length → rowH M Ds p = (T.getD p []).drop (cs0.getD p 0)) : ∀ k, k ≤ Ds.length → (gw M W0 T cs0 o k).1.length = k ∧ ∃ rest, RunM M (endW M W0 (gw M W0 T cs0 o k).1) rest ∧ k + rest.length = Ds.length ∧ (∀ p, p < T.length → (T.getD p []).drop ((gw M W0 T cs0 o k).2.getD p 0) = rowH M rest p) ∧ endW M (endW M W0 (gw M W0 T cs0 o k).1) rest = endW M W0 Ds
  | 0, _ => ⟨rfl, Ds, hR, by omega, fun p hp => (hrow p hp).symm, rfl⟩
  | k + 1, hk => by
    obtain ⟨hlen, rest, r1, r2, r3, r4⟩ := gw_full mn ok v ho hT hl hle hR hrow k (by omega)
    have inv := gw_inv (M := M) (W0 := W0) (o := o) ho hl hle k
    have okk : WdOk M (endW M W0 (gw M W0 T cs0 o k).1) (B + k) := endW_ok _ ok (by omega)
    have vk : WdV (endW M W0 (gw M W0 T cs0 o k).1) := v.run ok inv.run
    cases rest with
    | nil => simp only [List.length_nil] at r2; omega
    | cons D0 rest0 =>
      have hD0 := r1.1
      have hp0 := own_lt mn (poss_dv hD0)
      rw [← hT] at hp0
      have e0 : getT T (gw M W0 T cs0 o k).2 (ownM M D0) = some D0 := by
        have h := r3 _ hp0
        unfold rowH at h
        rw [List.filter_cons, if_pos (decide_eq_true rfl)] at h
        unfold getT
        have h2 := congrArg List.head? h
        rw [List.head?_drop] at h2
        exact h2
      have c0 : cand M (endW M W0 (gw M W0 T cs0 o k).1) T (gw M W0 T cs0 o k).2 o (ownM M D0) = true := by
        unfold cand
        rw [e0]
        simp only [can_mem.mpr hD0, decide_true, Bool.or_true, Bool.and_true]
      cases e : next M (endW M W0 (gw M W0 T cs0 o k).1) T (gw M W0 T cs0 o k).2 o with
      | none =>
        have := next_none e _ hp0
        rw [c0] at this
        cases this
      | some p =>
        obtain ⟨hp, D, hD, hc, _⟩ := next_some e
        have hown := own_at ho e hD
        rw [gw_next e hD]
        have hrow2 : rowH M (D0 :: rest0) p = D :: (T.getD p []).drop ((gw M W0 T cs0 o k).2.getD p 0 + 1) := by
          rw [← r3 p hp]
          exact take_drop_one hD
        obtain ⟨xs, ys, exy, hx, _, hr⟩ := first_own hrow2
        rw [exy] at r1 r4
        have r2b : (D0 :: rest0).length = (xs ++ ys).length + 1 := by rw [exy]; simp only [List.length_append, List.length_cons]; omega
        obtain ⟨f1, f2⟩ := to_front mn okk vk r1 (can_mem.mp hc) fun X hX => by rw [hown]; exact hx X hX
        refine ⟨by rw [List.length_append, hlen] <;> rfl, xs ++ ys, ?_, by omega, fun q hq => ?_, ?_⟩
        · have e5 : endW M W0 ((gw M W0 T cs0 o k).1 ++ [D]) = stepM M (endW M W0 (gw M W0 T cs0 o k).1) D := endW_app _ [D]
          show RunM M (endW M W0 ((gw M W0 T cs0 o k).1 ++ [D])) (xs ++ ys)
          rw [e5]
          exact f1.2
        · rw [getD_set]
          by_cases z : p = q
          · subst z
            rw [if_pos ⟨rfl, by rw [inv.len]; exact hp⟩]
            exact hr.symm
          · rw [if_neg fun y => z y.1, r3 q hq, exy, row_other (by rw [hown]; exact z)]
        · have e5 : endW M W0 ((gw M W0 T cs0 o k).1 ++ [D]) = stepM M (endW M W0 (gw M W0 T cs0 o k).1) D := endW_app _ [D]
          show endW M (endW M W0 ((gw M W0 T cs0 o k).1 ++ [D])) (xs ++ ys) = _
          rw [e5]
          exact f2.trans r4
end Cw

set_option maxHeartbeats 4000000
/-! sum, max, xs[i] += 1, slices of rows as data, comprehensions of two clauses -/
namespace Cw
open PySem PySem.Spec PyProof.Rows L2
theorem bo_sum : bootBuiltins "sum" = some (.builtin "sum") := by decide +kernel
theorem bo_max : bootBuiltins "max" = some (.builtin "max") := by decide +kernel
theorem cr_sumK {X : Cx} {K : PySem.W.Frag} (hK : X.K = K) (hc : X.calm = true) : CallR X (.builtin "sum") (rSum K) := hK ▸ cr_sum hc
theorem pg_ixK {X : Cx} {K : PySem.W.Frag} (hK : X.K = K) : PGet X (rIxL K) := by
  subst hK
  intro pins s σ H o i ov iv Q I ro ri h
  obtain ⟨p, xs, i, z, rfl, rfl, hq, he, q⟩ := h
  cases ro
  obtain ⟨t, rfl⟩ := ri
  obtain ⟨its, r, pl, hz⟩ := I.list hq
  obtain ⟨j, h1, h2, h3, h4, h5⟩ := atI_get he
  obtain ⟨w, ew, rw'⟩ := r.get h2
  have hl := r.length
  have hn := line63
  have fin : EP X pins σ Q w s := ⟨z, H, I, rw', q⟩
  by_cases h0 : 0 ≤ i
  · have hj : i.toNat = j := by
      rw [seqIndex_of h0 h5] at h1
      exact Option.some.inj h1
    exact wpAny_getItem_list pl.isList h0 (by omega) (by rw [hj]; simpa using ew) fin
  · have hj : (i + (its.toArray.size : Int)).toNat = j := by
      rw [seqIndex_neg (by omega) h4] at h1
      rw [List.size_toArray, ← hl]
      exact Option.some.inj h1
    exact wpAny_getItem_list_neg pl.isList (by omega) (by rw [List.size_toArray] <;> omega) (by omega) (by rw [hj]; simpa using ew) fin
section
variable {K : PySem.W.Frag} {σ : L2.St} {G H : Hp} {Q : VK} {v u : V} {ds es : List PyData} {b : Bool}
theorem q_augS {to ti te : TE} {tget : V → V → Hp → VK → Prop} {tip : TIp} {tset : TSet} {D : Ends} (h : to σ H fun o H1 => ti σ H1 fun i H2 => tget o i H2 fun x H3 => te σ H3 fun y H4 => tip x y H4 fun z H5 => tset o i z H5 fun H6 => D.nx σ H6) : tAugS to ti te tget tip tset D σ H := h
theorem q_ipI {f : Int → Int → Int} {i j : Int} (q : Q (.int (f i j)) H) : ipI f (.int i) (.int j) H Q := ⟨i, j, rfl, rfl, q⟩
theorem q_ixl {l : Addr} {xs : List V} {i : Int} (hS : SqL K H l xs) (ha : atI xs i = some v) (q : Q v H) : rIxL K (.ref l) (.int i) H Q := ⟨l, xs, i, v, rfl, rfl, hS, ha, q⟩
theorem sum_cast : ∀ ns : List Nat, (ns.map fun n : Nat => (n : Int)).sum = (ns.sum : Nat)
  | [] => rfl
  | n :: r => by
    show (n : Int) + (r.map fun n : Nat => (n : Int)).sum = ((n + r.sum : Nat) : Int)
    rw [sum_cast r]
    omega
theorem q_sumR {ns : List Nat} (hv : Rp K G v (.list (ns.map nD))) (x : Ex G H) (q : Q (.int (ns.sum : Nat)) H) : rSum K [v] H Q := by
  obtain ⟨a, vs, rfl, hS, hr⟩ := rp_lst hv
  obtain rfl := nats_of hr
  refine ⟨a, ns.map fun n : Nat => (n : Int), rfl, .inl (.inl ?_), by rw [sum_cast]; exact q⟩
  rw [List.map_map]
  exact x _ _ hS
theorem q_max2 {i j : Int} (q : Q (.int (if j > i then j else i)) H) : (fun (xs : List V) (H : Hp) (Q : VK) => ∃ i j, xs = [.int i, .int j] ∧ Q (.int (if j > i then j else i)) H) [.int i, .int j] H Q := ⟨i, j, rfl, q⟩
/-! slices -/
def cutL {α : Type} (xs : List α) (lo hi : Option Int) : List α := (xs.drop (HT.sIx xs.length 0 lo)).take (HT.sIx xs.length xs.length hi - HT.sIx xs.length 0 lo)
theorem cutL_map {α β : Type} (f : α → β) (xs : List α) (lo hi : Option Int) : cutL (xs.map f) lo hi = (cutL xs lo hi).map f := by
  unfold cutL
  rw [List.length_map, List.map_take, List.map_drop]
theorem cutL_len {α : Type} (xs : List α) (lo hi : Option Int) : (cutL xs lo hi).length ≤ xs.length := by
  unfold cutL
  rw [List.length_take, List.length_drop]
  omega
theorem cutL_sub {α : Type} {xs : List α} {lo hi : Option Int} {x : α} (h : x ∈ cutL xs lo hi) : x ∈ xs := List.mem_of_mem_drop (List.mem_of_mem_take h)
theorem q_slAB {lo hi : Option Int} (hv : Rp K G v (sqD b ds)) (x : Ex G H) (q : ∀ G2 H2 p, Gro none G H G2 H2 → Rp K G2 (.ref p) (sqD b (cutL ds lo hi)) → Q (.ref p) H2) : rSlAny K v lo hi H Q := by
  cases b with
  | false =>
    obtain ⟨l, vs, rfl, hS, hr⟩ := rp_lst hv
    refine .inl ⟨l, vs, rfl, .inl (.inl (x _ _ hS)), fun p hp => ?_⟩
    refine q (L2.upd G p (.lst (cutV vs lo hi))) _ p (Gro.new x hp) (.lst upd_same ?_)
    unfold cutL cutV
    rw [← hr.len]
    exact ((hr.drop _).take _).mono (Ex.new (x.back hp))
  | true =>
    obtain ⟨l, vs, rfl, hS, hr⟩ := rp_tup hv
    refine .inr (.inl ⟨l, vs, rfl, x.st hS, fun z => ?_, fun _ p hp => ?_⟩)
    · have e : cutL ds lo hi = ds := by
        unfold cutL
        rw [← hr.len, z.1, z.2, List.drop_zero, Nat.sub_zero]
        exact List.take_of_length_le (by rw [hr.len]; exact Nat.le_refl _)
      refine q G H l (Gro.refl x) ?_
      rw [e]
      exact hv
    · refine q (L2.upd G p (.tup (cutV vs lo hi))) _ p (Gro.new x hp) (.tup (.inl (.inl upd_same)) ?_)
      unfold cutL cutV
      rw [← hr.len]
      exact ((hr.drop _).take _).mono (Ex.new (x.back hp))
theorem q_addTT (hv : Rp K G v (.tuple ds)) (hu : Rp K G u (.tuple es)) (x : Ex G H) (hl : ds.length + es.length ≤ 1000000) (q : ∀ G2 H2 p, Gro none G H G2 H2 → Rp K G2 (.ref p) (.tuple (ds ++ es)) → Q (.ref p) H2) : rAddA K v u H Q := .inr (.inr (.inl (q_catTT hv hu x hl q)))
theorem q_revT {te : TE} (h : te σ H fun x H1 => ∃ a xs, x = .ref a ∧ SqT K H1 a xs ∧ ∀ p, H1 p = none → Q (.ref p) (L2.upd H1 p (.tup xs.reverse))) : tRevT K te σ H Q := h
theorem Rps.rev : ∀ {vs : List V} {ds : List PyData}, Rps K G vs ds → Rps K G vs.reverse ds.reverse
  | _, _, .nil => .nil
  | _, _, .cons a r => by
    rw [List.reverse_cons, List.reverse_cons]
    exact (Rps.rev r).app (Rps.one a)
theorem q_revR (hv : Rp K G v (.tuple ds)) (x : Ex G H) (q : ∀ G2 H2 p, Gro none G H G2 H2 → Rp K G2 (.ref p) (.tuple ds.reverse) → Q (.ref p) H2) : ∃ a xs, v = .ref a ∧ SqT K H a xs ∧ ∀ p, H p = none → Q (.ref p) (L2.upd H p (.tup xs.reverse)) := by
  obtain ⟨l, vs, rfl, hS, hr⟩ := rp_tup hv
  exact ⟨l, vs, rfl, x.st hS, fun p hp => q _ _ p (Gro.new x hp) (.tup (.inl (.inl upd_same)) (hr.rev.mono (Ex.new (x.back hp))))⟩
end
/-! while, with what stands between two turns -/
theorem q_while {c : TT} {t : TS} {D : Ends} {σ : L2.St} {H : Hp} (W : Nat → L2.St → Hp → Prop) (m : Nat) (h0 : W m σ H) (h : ∀ m σ H, W m σ H → c σ H fun b H1 => if b = true then ∃ N : L2.St → Hp → Prop, (∀ σ' H', N σ' H' → ∃ m', m' < m ∧ W m' σ' H') ∧ t { D with nx := N, ct := N, bk := D.nx } σ H1 else D.nx σ H1) : tWhile c t D σ H := ⟨W, ⟨m, h0⟩, h⟩
/-! [.. for i, x in enumerate(rows) for y in x], of truths -/
section
variable {K : PySem.W.Frag} {σ : L2.St} {G H : Hp} {Q : VK} {v : V} {e c : Bool} {rows : List (List PyData)} {ta : TA} {te1 te : TE} {i1 i2 i3 : Nat} {vs vs1 : List Nat}
def boolsF (f : Nat → PyData → Bool) (rows : List (List PyData)) (i : Nat) : List Bool := ((List.range i).map fun k => (rows.getD k []).map (f k)).flatten
theorem boolsF_next (f : Nat → PyData → Bool) (rows : List (List PyData)) (i : Nat) : boolsF f rows (i + 1) = boolsF f rows i ++ (rows.getD i []).map (f i) := flat_next _ i
theorem boolsF_len {f : Nat → PyData → Bool} {B : Nat} (hB : ∀ r ∈ rows, r.length ≤ B) : ∀ i, (boolsF f rows i).length ≤ i * B
  | 0 => by simp [boolsF]
  | i + 1 => by
    have ih := boolsF_len (f := f) hB i
    have h : (rows.getD i []).length ≤ B := by
      rw [List.getD_eq_getElem?_getD]
      cases z : rows[i]? with
      | none => exact Nat.zero_le _
      | some r => exact hB r (List.mem_of_getElem? z)
    rw [boolsF_next, List.length_append, List.length_map, Nat.add_mul]
    omega
/-- the inner walk's step -/
abbrev iSqB (c : Bool) (K : PySem.W.Frag) (te1 : TE) : TI := iSeqA K te1
theorem q_lc2E (f : Nat → PyData → Bool) (hv : Rp K G v (sqD e (rows.map (sqD c)))) (x : Ex G H) (hn : rows.length ≤ 1000) (hB : ∀ r ∈ rows, r.length ≤ 1000)
    (hta : ∀ R : List V → Hp → Prop, R [v] H → ta σ H R)
    (hw1 : ∀ x y, wipe (((wipe σ vs).set i1 x).set i2 y) vs = wipe σ vs)
    (hw2 : ∀ x y z, wipe ((wipe (((wipe σ vs).set i1 x).set i2 y) vs1).set i3 z) vs1 = wipe (((wipe σ vs).set i1 x).set i2 y) vs1)
    (hte1 : ∀ (x : Option V) (y : V) (H' : Hp) (R : V → Hp → Prop), R y H' → te1 (((wipe σ vs).set i1 x).set i2 (some y)) H' R)
    (body : ∀ (i j : Nat) (r : List PyData) (d : PyData) (y u : V) (H' : Hp), rows[i]? = some r → r[j]? = some d → Ex G H' → Rp K G u d → ∀ R : VK, (∀ H2, Ex H' H2 → R (.bl (f i d)) H2) → te ((wipe (((wipe σ vs).set i1 (some (.int (i : Nat)))).set i2 (some y)) vs1).set i3 (some u)) H' R)
    (q : ∀ D G2 H2, Gro none G H G2 H2 → G2 D = some (.lst ((boolsF f rows rows.length).map V.bl)) → Q (.ref D) H2) :
    tLc2 (iEnumA K ta) (gSeqA K 2 (gCons (gName i1) (gCons (gName i2) gNil))) tYes (iSeqA K te1) (gName i3) tYes te vs vs1 σ H Q := by
  have hl : ∀ i, i ≤ rows.length → (boolsF f rows i).length ≤ 1000000 := fun i hi => by
    have := boolsF_len (f := f) hB i
    have : i * 1000 ≤ 1000 * 1000 := Nat.mul_le_mul_right _ (by omega)
    omega
  -- one row
  have inner : ∀ (i : Nat) (r : List PyData) (y : V) (H' : Hp) (D : Addr) (Nx : Hp → Prop), rows[i]? = some r → Rp K G y (sqD c r) → (∃ G', Acc D G H G' H' ((boolsF f rows i).map V.bl)) → (∀ H', (∃ G', Acc D G H G' H' ((boolsF f rows (i + 1)).map V.bl)) → Nx H') →
      (iSeqA K te1) (((wipe σ vs).set i1 (some (.int (i : Nat)))).set i2 (some y)) H' fun J1 H4 => ∃ W1 : Nat → Nat → Hp → Prop, (∃ m, W1 0 m H4) ∧ ∀ j k H, W1 j k H →
      (J1.stop j H ∧ Nx H) ∨ (J1.go j H ∧ ∃ Nx1 : Hp → Prop, (∀ H', Nx1 H' → ∃ k', k' < k ∧ W1 (j + 1) k' H') ∧ ∀ x H', J1.yld j H x H' → gName i3 x (wipe (((wipe σ vs).set i1 (some (.int (i : Nat)))).set i2 (some y)) vs1) H' fun σ3 H5 => wipe σ3 vs1 = wipe (((wipe σ vs).set i1 (some (.int (i : Nat)))).set i2 (some y)) vs1 ∧ tYes σ3 H5 fun b H6 =>
        if b = true then te σ3 H6 fun y H7 => ∃ acc, H7 D = some (.lst acc) ∧ acc.length < sizeLine ∧ Nx1 (upd H7 D (.lst (acc ++ [y]))) else Nx1 H6) := by
    intro i r y H' D Nx hr ry acc hNx
    have hi : i < rows.length := (List.getElem?_eq_some_iff.mp hr).1
    have hrl : r.length ≤ 1000 := hB r (List.mem_of_getElem? hr)
    have er : rows.getD i [] = r := by rw [List.getD_eq_getElem?_getD, hr] <;> rfl
    have bn : boolsF f rows (i + 1) = boolsF f rows i ++ r.map (f i) := by rw [boolsF_next, er]
    have step : ∀ (J1 : It) (vs2 : List V), Rps K G vs2 r → (∀ j H2 z H3, J1.yld j H2 z H3 → (∃ G', Acc D G H G' H2 ((boolsF f rows i ++ (r.take j).map (f i)).map V.bl)) → H3 = H2 ∧ vs2[j]? = some z) → (∀ j H2, Ex G H2 → j < vs2.length → J1.go j H2) → (∀ j H2, Ex G H2 → vs2.length ≤ j → J1.stop j H2) →
        ∃ W1 : Nat → Nat → Hp → Prop, (∃ m, W1 0 m H') ∧ ∀ j k H, W1 j k H →
      (J1.stop j H ∧ Nx H) ∨ (J1.go j H ∧ ∃ Nx1 : Hp → Prop, (∀ H', Nx1 H' → ∃ k', k' < k ∧ W1 (j + 1) k' H') ∧ ∀ x H', J1.yld j H x H' → gName i3 x (wipe (((wipe σ vs).set i1 (some (.int (i : Nat)))).set i2 (some y)) vs1) H' fun σ3 H5 => wipe σ3 vs1 = wipe (((wipe σ vs).set i1 (some (.int (i : Nat)))).set i2 (some y)) vs1 ∧ tYes σ3 H5 fun b H6 =>
        if b = true then te σ3 H6 fun y H7 => ∃ acc, H7 D = some (.lst acc) ∧ acc.length < sizeLine ∧ Nx1 (upd H7 D (.lst (acc ++ [y]))) else Nx1 H6) := by
      intro J1 vs2 hrs hy hg hs
      refine ⟨fun j k H2 => k = r.length - j ∧ j ≤ r.length ∧ ∃ G', Acc D G H G' H2 ((boolsF f rows i ++ (r.take j).map (f i)).map V.bl), ⟨r.length, by simp, Nat.zero_le _, by simpa using acc⟩, ?_⟩
      rintro j k H2 ⟨rfl, hj, G', a⟩
      by_cases z : j < r.length
      · refine .inr ⟨hg j H2 (a.gr.g.trans a.w) (by rw [hrs.len]; exact z), fun H3 => ∃ G', Acc D G H G' H3 ((boolsF f rows i ++ (r.take (j + 1)).map (f i)).map V.bl), fun H3 h3 => ⟨r.length - (j + 1), by omega, rfl, by omega, h3⟩, ?_⟩
        intro u H3 hyl
        obtain ⟨rfl, hu⟩ := hy j H2 u H3 hyl ⟨G', a⟩
        obtain ⟨d, hd, ru⟩ := hrs.at hu
        refine ⟨hw2 _ _ _, ?_⟩
        show te _ H3 _
        refine body i j r d y u H3 hr hd (a.gr.g.trans a.w) ru _ fun H4 e4 => ?_
        have a4 := a.gro (Gro.up a.w e4)
        refine ⟨_, a4.hl, line_lt ?_, G', ?_⟩
        · rw [List.length_map, List.length_append, List.length_map, List.length_take]
          have := boolsF_len (f := f) hB i
          have : i * 1000 ≤ 999 * 1000 := Nat.mul_le_mul_right _ (by omega)
          omega
        · have e : (boolsF f rows i ++ (r.take (j + 1)).map (f i)).map V.bl = (boolsF f rows i ++ (r.take j).map (f i)).map V.bl ++ [.bl (f i d)] := by
            rw [List.take_add_one, hd, Option.toList_some, List.map_append, List.map_append, List.map_append, List.map_append, List.append_assoc] <;> rfl
          rw [e]
          exact a4.put
      · refine .inl ⟨hs j H2 (a.gr.g.trans a.w) (by rw [hrs.len]; omega), hNx H2 ⟨G', ?_⟩⟩
        have e : r.take j = r := List.take_of_length_le (by omega)
        rw [e] at a
        rw [bn]
        exact a
    cases c with
    | false =>
      obtain ⟨l, us, rfl, hS, hrs⟩ := rp_lst ry
      refine .inl (hte1 _ _ _ _ ⟨l, rfl, ⟨us, .inl (.inl (?_ : H' l = _))⟩, ?_⟩)
      · obtain ⟨G', a⟩ := acc
        exact a.w _ _ (a.gr.g _ _ hS)
      · refine step _ us hrs (fun j H2 z H3 hy ⟨G', a⟩ => ?_) (fun j H2 eg hj => ?_) (fun j H2 eg hj => ?_)
        · have hS2 : SqL K H2 l us := .inl (.inl (a.w _ _ (a.gr.g _ _ hS)))
          exact ⟨hy.1, hy.2 us hS2⟩
        · exact ⟨us, us[j], .inl (.inl (eg _ _ hS)), by simp [hj]⟩
        · exact ⟨us, .inl (.inl (eg _ _ hS)), hj⟩
    | true =>
      obtain ⟨l, us, rfl, hS, hrs⟩ := rp_tup ry
      refine .inr (.inl (hte1 _ _ _ _ ⟨l, rfl, ⟨us, ?_⟩, ?_⟩))
      · obtain ⟨G', a⟩ := acc
        exact a.w.st (a.gr.g.st hS)
      · refine step _ us hrs (fun j H2 z H3 hy ⟨G', a⟩ => ?_) (fun j H2 eg hj => ?_) (fun j H2 eg hj => ?_)
        · exact ⟨hy.1, hy.2 us (a.w.st (a.gr.g.st hS))⟩
        · exact ⟨us, us[j], eg.st hS, by simp [hj]⟩
        · exact ⟨us, eg.st hS, hj⟩
  have outer : ∀ (J : It) (us : List V), Rps K G us (rows.map (sqD c)) → (∀ i H2 z H3, J.yld i H2 z H3 → Ex G H2 → ∃ T u, z = .ref T ∧ H2 T = none ∧ H3 = upd H2 T (.tup [.int (i : Nat), u]) ∧ us[i]? = some u) → (∀ j H2, Ex G H2 → j < us.length → J.go j H2) → (∀ j H2, Ex G H2 → us.length ≤ j → J.stop j H2) → ∀ D, H D = none →
      ∃ W : Nat → Nat → Hp → Prop, (∃ m, W 0 m (upd H D (.lst []))) ∧ ∀ i m H, W i m H →
  (J.stop i H ∧ Q (.ref D) H) ∨ (J.go i H ∧ ∃ Nx : Hp → Prop, (∀ H', Nx H' → ∃ m', m' < m ∧ W (i + 1) m' H') ∧ ∀ x H', J.yld i H x H' → (gSeqA K 2 (gCons (gName i1) (gCons (gName i2) gNil))) x (wipe σ vs) H' fun σ2 H2 => wipe σ2 vs = wipe σ vs ∧ tYes σ2 H2 fun b H3 =>
    if b = true then (iSeqA K te1) σ2 H3 fun J1 H4 => ∃ W1 : Nat → Nat → Hp → Prop, (∃ m, W1 0 m H4) ∧ ∀ j k H, W1 j k H →
      (J1.stop j H ∧ Nx H) ∨ (J1.go j H ∧ ∃ Nx1 : Hp → Prop, (∀ H', Nx1 H' → ∃ k', k' < k ∧ W1 (j + 1) k' H') ∧ ∀ x H', J1.yld j H x H' → gName i3 x (wipe σ2 vs1) H' fun σ3 H5 => wipe σ3 vs1 = wipe σ2 vs1 ∧ tYes σ3 H5 fun b H6 =>
        if b = true then te σ3 H6 fun y H7 => ∃ acc, H7 D = some (.lst acc) ∧ acc.length < sizeLine ∧ Nx1 (upd H7 D (.lst (acc ++ [y]))) else Nx1 H6)
    else Nx H3) := by
    intro J us hrs hy hg hs D hD
    have lu : us.length = rows.length := by rw [hrs.len, List.length_map]
    refine ⟨fun i m H2 => m = rows.length - i ∧ i ≤ rows.length ∧ ∃ G', Acc D G H G' H2 ((boolsF f rows i).map V.bl), ⟨rows.length, by simp, Nat.zero_le _, G, Acc.first x hD⟩, ?_⟩
    rintro i m H2 ⟨rfl, hi, G', a⟩
    by_cases z : i < rows.length
    · refine .inr ⟨hg i H2 (a.gr.g.trans a.w) (by omega), fun H3 => ∃ G', Acc D G H G' H3 ((boolsF f rows (i + 1)).map V.bl), fun H3 h3 => ⟨rows.length - (i + 1), by omega, rfl, by omega, h3⟩, ?_⟩
      intro z1 H3 hyl
      obtain ⟨T, u, rfl, hT, rfl, hu⟩ := hy i H2 z1 H3 hyl (a.gr.g.trans a.w)
      obtain ⟨d, hd, ru⟩ := hrs.at hu
      rw [List.getElem?_map] at hd
      cases hrow : rows[i]? with
      | none => rw [hrow] at hd; cases hd
      | some r =>
        rw [hrow] at hd
        cases hd
        refine .inl ⟨T, [.int (i : Nat), u], rfl, .inl (.inl upd_same), rfl, _, _, rfl, _, _, rfl, rfl, hw1 _ _, ?_⟩
        show (iSeqA K te1) _ _ _
        exact inner i r u _ D _ hrow ru ⟨G', a.gro (Gro.up a.w (Ex.new hT))⟩ fun H' h => h
    · obtain rfl : i = rows.length := by omega
      refine .inl ⟨hs _ H2 (a.gr.g.trans a.w) (by omega), q D _ H2 a.know upd_same⟩
  cases e with
  | false =>
    obtain ⟨l, us, rfl, hS, hrs⟩ := rp_lst hv
    refine .inl (hta _ ⟨l, us, rfl, .inl (.inl (x _ _ hS)), outer _ us hrs (fun i H2 z H3 hy eg => ?_) (fun i H2 eg hi => ?_) (fun i H2 eg hi => ?_)⟩)
    · obtain ⟨T, u, h1, h2, h3, h4⟩ := hy
      exact ⟨T, u, h1, h2, h3, h4 us (.inl (.inl (eg _ _ hS)))⟩
    · exact ⟨us, us[i], .inl (.inl (eg _ _ hS)), by simp [hi]⟩
    · exact ⟨us, .inl (.inl (eg _ _ hS)), hi⟩
  | true =>
    obtain ⟨l, us, rfl, hS, hrs⟩ := rp_tup hv
    refine .inr (hta _ ⟨l, us, rfl, x.st hS, outer _ us hrs (fun i H2 z H3 hy eg => ?_) (fun i H2 eg hi => ?_) (fun i H2 eg hi => ?_)⟩)
    · obtain ⟨T, u, h1, h2, h3, h4⟩ := hy
      exact ⟨T, u, h1, h2, h3, h4 us (eg.st hS)⟩
    · exact ⟨us, us[i], eg.st hS, by simp [hi]⟩
    · exact ⟨us, eg.st hS, hi⟩
end
end Cw

set_option maxHeartbeats 4000000
/-! rows of deeds as data -/
namespace Cw
open PySem PySem.Spec PyProof.Rows L2
section
variable {K : PySem.W.Frag} {σ : L2.St} {G H : Hp} {Q : VK} {ta te : TE} {g : TG} {tt : TT} {ws : List Nat} {v : V}
def kcSq (b : Bool) (K : PySem.W.Frag) (g : TG) (tt : TT) (te : TE) (ws : List Nat) (σ : L2.St) (Q : VK) : V → Hp → Prop := if b then kcTup K g tt te ws σ Q else kcLst K g tt te ws σ Q
theorem q_lcB (b : Bool) (h : ta σ H (kcSq b K g tt te ws σ Q)) : tLc (iSeqA K ta) g tt te ws σ H Q := by
  cases b with
  | false => exact .inl h
  | true => exact .inr (.inl h)
theorem q_fmB {α : Type} {xs : List α} {h : α → PyData} {f : α → Option PyData} {b : Bool} (hv : Rp K G v (sqD b (xs.map h))) (x : Ex G H) (hn : xs.length ≤ 1000000) (body : ∀ (i : Nat) (x : α) u G' H', xs[i]? = some x → Gro none G H G' H' → Rp K G' u (h x) → FmBody g tt te ws σ K (f x) u G' H')
    (done : ∀ G' H' D, Gro none G H G' H' → H D = none → Rp K G' (.ref D) (.list (xs.filterMap f)) → Q (.ref D) H') : kcSq b K g tt te ws σ Q v H := by
  cases b with
  | false => exact q_fmL hv x hn body done
  | true => exact q_fmT hv x hn body done
end
/-- two cells beside what is known -/
structure Two (a b : Addr) (G H G' H' : Hp) (xs ys : List V) : Prop where
  gr : Gro none G H G' H'
  ga : G' a = none
  gb : G' b = none
  ha : H' a = some (.lst xs)
  hb : H' b = some (.lst ys)
  na : H a = none
  nb : H b = none
  ab : a ≠ b
section
variable {a b : Addr} {G H G1 H1 G2 H2 : Hp} {xs ys ws : List V}
theorem Two.start (eG : Ex G H) (na : H a = none) (nb : H b = none) (ab : a ≠ b) (e : Ex H H1) (ha : H1 a = some (.lst xs)) (hb : H1 b = some (.lst ys)) : Two a b G H G H1 xs ys :=
  ⟨Gro.up eG e, eG.back na, eG.back nb, ha, hb, na, nb, ab⟩
theorem Two.gro (t : Two a b G H G1 H1 xs ys) (g : Gro none G1 H1 G2 H2) : Two a b G H G2 H2 xs ys :=
  have nn : ∀ {x o}, H1 x = some o → H1 x ≠ none := fun h => by rw [h]; exact fun z => nomatch z
  ⟨t.gr.trans0 g, g.n a (nn t.ha) t.ga, g.n b (nn t.hb) t.gb, g.ex _ _ t.ha, g.ex _ _ t.hb, t.na, t.nb, t.ab⟩
theorem Two.ww (t : Two a b G H G1 H1 xs ys) : Ex G1 H1 := t.gr.w
theorem Two.mutG (t : Two a b G H G1 H1 xs ys) {x : Addr} {o : HO} (gx : G1 x = none) (nx : H x = none) : Gro none G H G1 (L2.upd H1 x o) :=
  ⟨t.gr.g, Ex.mut t.gr.w gx, fun y u z h => by
    rw [upd_ne (ne_of_none h nx)]
    exact t.gr.k y u z h, t.gr.n⟩
theorem Two.putA (t : Two a b G H G1 H1 xs ys) : Two a b G H G1 (L2.upd H1 a (.lst ws)) ws ys :=
  ⟨t.mutG t.ga t.na, t.ga, t.gb, upd_same, upd_mu t.hb (Ne.symm t.ab), t.na, t.nb, t.ab⟩
theorem Two.putB (t : Two a b G H G1 H1 xs ys) : Two a b G H G1 (L2.upd H1 b (.lst ws)) xs ws :=
  ⟨t.mutG t.gb t.nb, t.ga, t.gb, upd_mu t.ha t.ab, upd_same, t.na, t.nb, t.ab⟩
/-- both known -/
theorem Two.know (t : Two a b G H G1 H1 xs ys) : ∃ G2, Gro none G H G2 H1 ∧ Ex G1 G2 ∧ G2 a = some (.lst xs) ∧ G2 b = some (.lst ys) := by
  have e1 := Acc.know (l := a) ⟨t.gr, t.ga, t.ha, t.na⟩
  have gb1 : L2.upd G1 a (.lst xs) b = none := by rw [upd_ne (Ne.symm t.ab)]; exact t.gb
  have e2 := Acc.know (l := b) ⟨e1, gb1, t.hb, t.nb⟩
  exact ⟨_, e2, (Ex.new t.ga).trans (Ex.new gb1), Ex.new gb1 _ _ upd_same, upd_same⟩
end
theorem bools_of {K : PySem.W.Frag} {G : Hp} : ∀ {bs : List Bool} {vs : List V}, Rps K G vs (bs.map PyData.bool) → vs = bs.map V.bl
  | [], _, h => rps_nil h
  | b :: r, vs, h => by
    obtain ⟨u, us, rfl, h1, h2⟩ := rps_cons h
    rw [bools_of h2]
    cases h1
    rfl
def rowsD (e c b : Bool) (T : List (List Deed)) : PyData := sqD e (T.map fun r => sqD c (r.map (sqd b)))
def SmT (T : List (List Deed)) : Prop := T.length ≤ 100 ∧ ∀ r ∈ T, r.length ≤ 900
theorem okD_rows {e c b : Bool} {T : List (List Deed)} (h : SmT T) : okD 3 (rowsD e c b T) = true := by
  refine okD_row (by rw [List.length_map]; have := h.1; omega) fun d hd => ?_
  obtain ⟨r, hr, rfl⟩ := List.mem_map.mp hd
  refine okD_row (by rw [List.length_map]; have := h.2 r hr; omega) fun d hd => ?_
  obtain ⟨D, _, rfl⟩ := List.mem_map.mp hd
  exact okD_sqd b D
theorem shp_rows {e c b : Bool} {T : List (List Deed)} (h : SmT T) : Shp (rowsD e c b T) := okD_le (okD_rows h) (by decide)
theorem shp_sqd (b : Bool) (D : Deed) : Shp (sqd b D) := okD_le (okD_sqd b D) (by decide)
theorem tot_le {T : List (List Deed)} (h : SmT T) : tot T ≤ 100 * 900 := by
  obtain ⟨h1, h2⟩ := h
  have : ∀ T : List (List Deed), (∀ r ∈ T, r.length ≤ 900) → tot T ≤ T.length * 900 := fun T => by
    induction T with
    | nil => intro _; exact Nat.le_refl _
    | cons r T ih =>
      intro h
      have i := ih fun r hr => h r (List.mem_cons_of_mem _ hr)
      have k := h r (List.mem_cons_self ..)
      show r.length + tot T ≤ (T.length + 1) * 900
      omega
  have k := this T h2
  have : T.length * 900 ≤ 100 * 900 := Nat.mul_le_mul_right _ h1
  omega
theorem row_le {T : List (List Deed)} (h : SmT T) (p : Nat) : (T.getD p []).length ≤ 900 := by
  rw [List.getD_eq_getElem?_getD]
  cases z : T[p]? with
  | none => exact Nat.zero_le _
  | some r => exact h.2 r (List.mem_of_getElem? z)
theorem row_tot (T : List (List Deed)) (p : Nat) : (T.getD p []).length ≤ tot T := by
  induction T generalizing p with
  | nil => exact Nat.zero_le _
  | cons r T ih =>
    cases p with
    | zero => show r.length ≤ r.length + tot T; omega
    | succ p => have := ih p; show (T.getD p []).length ≤ r.length + tot T; omega
theorem rowsD_at {c b : Bool} {T : List (List Deed)} {p : Nat} (hp : p < T.length) : (T.map fun r => sqD c (r.map (sqd b)))[p]? = some (sqD c ((T.getD p []).map (sqd b))) := by
  rw [List.getElem?_map, List.getD_eq_getElem?_getD, List.getElem?_eq_getElem hp] <;> rfl
theorem isRow_sq (b : Bool) (n : Nat) (ds : List PyData) : isRow (n : Int) (sqD b ds) = decide (ds.length = n) := by
  have e : isRow (n : Int) (sqD b ds) = decide ((ds.length : Int) = (n : Int)) := by cases b <;> rfl
  rw [e]
  by_cases z : ds.length = n
  · rw [decide_eq_true z, decide_eq_true (by omega)]
  · rw [decide_eq_false z, decide_eq_false (by omega)]
theorem dSeq_sq (b : Bool) (ds : List PyData) : dSeq (sqD b ds) = true := by cases b <;> rfl
/-- a deed that the net allows -/
theorem isD_dv {M : MN} {D : Deed} (h : isDeedD M.N D.d = true) : DV M D := by
  rcases deed_form2 h with ⟨r, hr, hs, hn⟩ | ⟨r, k, c, t, hr, hs, ha⟩ | ⟨c, k, hc, hs⟩
  · obtain rfl : D = .act r := (deed_seq (D := D) (D' := .act r) hs).symm
    exact ⟨M.R[r].a, by rw [List.getElem?_eq_getElem hr] <;> rfl, fun c k z => hn c k (by rw [List.getElem?_eq_getElem hr]; exact congrArg some z)⟩
  · obtain rfl : D = .take r k := (deed_seq (D := D) (D' := .take r k) hs).symm
    exact ⟨c, t, ha⟩
  · obtain rfl : D = .lose c k := (deed_seq (D := D) (D' := .lose c k) hs).symm
    exact hc
def allOwn (M : MN) (T : List (List Deed)) : Bool := (List.range T.length).all fun p => (T.getD p []).all fun D => isDeedD M.N D.d && decide (ownM M D = p)
def okRows (M : MN) (T : List (List Deed)) : Bool := decide (T.length = M.ps.length) && (decide (tot T ≤ 60) && allOwn M T)
theorem allOwn_iff {M : MN} {T : List (List Deed)} : allOwn M T = true ↔ ∀ p, ∀ D ∈ T.getD p [], isDeedD M.N D.d = true ∧ ownM M D = p := by
  unfold allOwn
  rw [List.all_eq_true]
  constructor
  · intro h p D hD
    by_cases hp : p < T.length
    · have := List.all_eq_true.mp (h p (List.mem_range.mpr hp)) D hD
      obtain ⟨a, b⟩ := bA this
      exact ⟨a, of_decide_eq_true b⟩
    · rw [List.getD_eq_getElem?_getD, List.getElem?_eq_none (by omega)] at hD
      cases hD
  · intro h p _
    refine List.all_eq_true.mpr fun D hD => ?_
    obtain ⟨a, b⟩ := h p D hD
    rw [a, decide_eq_true b] <;> rfl
/-- what stands in the list of truths -/
def ownF (M : MN) (p : Nat) (d : PyData) : Bool := isDeedD M.N d && PyData.eqv (ownerD M.N d) (nD p)
theorem ownF_sqd (M : MN) (b : Bool) (p : Nat) (D : Deed) : ownF M p (sqd b D) = (isDeedD M.N D.d && decide (ownM M D = p)) := by
  unfold ownF
  rw [isD_sqd]
  cases h : isDeedD M.N D.d with
  | false => rfl
  | true =>
    rw [own_sqd (isD_dv h), nD, nD, eqv_int, Bool.true_and, Bool.true_and]
    by_cases z : ownM M D = p
    · rw [decide_eq_true z, decide_eq_true (by omega)]
    · rw [decide_eq_false z, decide_eq_false (by omega)]
theorem all_flat {α : Type} (f : α → List Bool) : ∀ xs : List α, ((xs.map f).flatten).all id = xs.all fun x => (f x).all id
  | [] => rfl
  | x :: r => by rw [List.map_cons, List.flatten_cons, List.all_append, List.all_cons, all_flat f r]
theorem bools_own (M : MN) (b : Bool) (T : List (List Deed)) : (boolsF (ownF M) (T.map fun r => r.map (sqd b)) T.length).all id = allOwn M T := by
  unfold boolsF allOwn
  rw [all_flat]
  congr 1
  funext p
  have e : (T.map fun r => r.map (sqd b)).getD p [] = (T.getD p []).map (sqd b) := by
    rw [List.getD_eq_getElem?_getD, List.getD_eq_getElem?_getD, List.getElem?_map]
    cases T[p]? <;> rfl
  rw [e, List.all_map, List.all_map]
  congr 1
  funext D
  exact ownF_sqd M b p D
def sp_many (K : PySem.W.Frag) : Sp := fun vs H Q _ => ∃ (G : Hp) (u : V) (e c b : Bool) (T : List (List Deed)), vs = [u] ∧ Ex G H ∧ Rp K G u (rowsD e c b T) ∧ SmT T ∧ ∀ H', Ex H H' → Q (.int (tot T : Nat)) H'
def sp_arows (K : PySem.W.Frag) (C : Addr) : Sp := fun vs H Q _ => ∃ (G : Hp) (a : Addr) (M : MN) (u : V) (e c b : Bool) (T : List (List Deed)), vs = [.ref a, u] ∧ Ex G H ∧ NetAt K C G a M.N ∧ MNOk M ∧ NOk M.N ∧ Rp K G u (rowsD e c b T) ∧ SmT T ∧ ∀ H', Ex H H' → Q (.bl (okRows M T)) H'
def optI : Option Nat → V
  | some p => .int (p : Int)
  | none => .non
def cntV (cs : List Nat) : List V := cs.map fun n : Nat => V.int (n : Int)
def sp_fready (K : PySem.W.Frag) (C : Addr) : Sp := fun vs H Q _ => ∃ (G : Hp) (a : Addr) (M : MN) (u v : V) (e c b bw : Bool) (T : List (List Deed)) (W : Wd) (cs : List Nat) (l : Addr), vs = [.ref a, u, v, .ref l] ∧ Ex G H ∧ NetAt K C G a M.N ∧ MNOk M ∧ NOk M.N ∧ Rp K G u (rowsD e c b T) ∧ SmT T ∧ Rp K G v (W.d bw) ∧ WdOk M W 900 ∧ H l = some (.lst (cntV cs)) ∧ cs.length = T.length ∧
  ∀ H', Ex H H' → Q (optI (next M W T cs false)) H'
def sp_lway (K : PySem.W.Frag) (C : Addr) : Sp := fun vs H Q _ => ∃ (G : Hp) (a : Addr) (M : MN) (u v x : V) (e c b bw bx : Bool) (T : List (List Deed)) (W : Wd) (cs : List Nat) (B : Nat), vs = [.ref a, u, v, x] ∧ Ex G H ∧ NetAt K C G a M.N ∧ MNOk M ∧ NOk M.N ∧ Rp K G u (rowsD e c b T) ∧ SmT T ∧ Rp K G v (W.d bw) ∧ WdOk M W B ∧ B + tot T ≤ 900 ∧
  Rp K G x (sqD bx (cs.map nD)) ∧ cs.length = T.length ∧ (∀ p, p < T.length → cs.getD p 0 ≤ (T.getD p []).length) ∧ (∀ p, ∀ D ∈ T.getD p [], ownM M D = p) ∧
  ∀ G2 H2 p bz, Gro none G H G2 H2 → Rp K G2 (.ref p) (.tuple [.tuple ((gw M W T cs false (tot T)).1.map Deed.d), (endW M W (gw M W T cs false (tot T)).1).d bz]) → Q (.ref p) H2
/-- the least run with these rows -/
def lrun (M : MN) (T : List (List Deed)) : Option (List Deed) := if okRows M T = true ∧ (gw M (startM M) T (List.replicate T.length 0) false (tot T)).1.length = tot T then some (gw M (startM M) T (List.replicate T.length 0) false (tot T)).1 else none
def sp_runof (K : PySem.W.Frag) (C : Addr) : Sp := fun vs H Q _ => ∃ (G : Hp) (a : Addr) (M : MN) (u : V) (e c b : Bool) (T : List (List Deed)), vs = [.ref a, u] ∧ Ex G H ∧ NetAt K C G a M.N ∧ MNOk M ∧ NOk M.N ∧ Rp K G u (rowsD e c b T) ∧ SmT T ∧
  (lrun M T = none → ∀ H', Ex H H' → Q .non H') ∧ (∀ Es, lrun M T = some Es → ∀ G2 H2 p, Gro none G H G2 H2 → Rp K G2 (.ref p) (.tuple (Es.map Deed.d)) → Q (.ref p) H2)
def sp_lrun (K : PySem.W.Frag) (C CS : Addr) : Sp := fun vs H Q E => ∃ (G : Hp) (a : Addr) (M : MN) (u : V) (e c b : Bool) (T : List (List Deed)), vs = [.ref a, u] ∧ Ex G H ∧ NetAt K C G a M.N ∧ MNOk M ∧ NOk M.N ∧ Rp K G u (rowsD e c b T) ∧ SmT T ∧
  (lrun M T = none → ∀ H1 dd, Ex H H1 → H1 dd = none → E (.ref CS) (some dd) (L2.upd H1 dd (.xd [("at", .int 0)]))) ∧ (∀ Es, lrun M T = some Es → ∀ G2 H2 p, Gro none G H G2 H2 → Rp K G2 (.ref p) (.tuple (Es.map Deed.d)) → Q (.ref p) H2)
end Cw

set_option maxHeartbeats 4000000
/-! rows of deeds: the least walk, as the law has it -/
namespace Cw
open PySem PySem.Spec PyProof.Rows L2
section
variable {α : Type} {K : PySem.W.Frag} {σ : L2.St} {G H : Hp} {Q : VK} {g : TG} {tt : TT} {te : TE} {ws : List Nat} {v : V} {xs : List α} {h : α → PyData} {f : α → Option PyData} {b : Bool}
/-- a comprehension whose list will change -/
theorem q_fmCell (hv : Rp K G v (sqD b (xs.map h))) (x : Ex G H) (hn : xs.length ≤ 1000000) (body : ∀ (i : Nat) (x : α) u G' H', xs[i]? = some x → Gro none G H G' H' → Rp K G' u (h x) → FmBody g tt te ws σ K (f x) u G' H')
    (done : ∀ D G' H' acc, Acc D G H G' H' acc → Rps K G' acc (xs.filterMap f) → Q (.ref D) H') : kcSq b K g tt te ws σ Q v H := by
  cases b with
  | false =>
    obtain ⟨a, vs, rfl, hS, hr⟩ := rp_lst hv
    have hlen : vs.length = xs.length := by rw [hr.len, List.length_map]
    refine q_lst_lc (.inl (.inl (x _ _ hS))) (fun D hD => ⟨FmIn K xs f G H D, FmIn.first x hD, ?_, ?_, ?_⟩)
    · rintro i H' hi ⟨G', acc, gr, _⟩
      exact .inl (.inl (gr.w _ _ (gr.g _ _ hS)))
    · intro i u H' hu hI
      have hi : i < xs.length := by
        rw [← hlen]
        exact (List.getElem?_eq_some_iff.mp hu).1
      obtain ⟨d', hd', ru⟩ := hr.at hu
      rw [List.getElem?_map, List.getElem?_eq_getElem hi] at hd'
      cases hd'
      exact FmIn.turn hD (List.getElem?_eq_getElem hi) hn hI fun G' gr => body i _ u G' H' (List.getElem?_eq_getElem hi) gr (ru.mono gr.g)
    · rintro H' ⟨G', acc, gr, gD, hacc, hr'⟩
      rw [hlen, List.take_length] at hr'
      exact done D G' H' acc ⟨gr, gD, hacc, hD⟩ hr'
  | true =>
    obtain ⟨a, vs, rfl, hS, hr⟩ := rp_tup hv
    have hlen : vs.length = xs.length := by rw [hr.len, List.length_map]
    have hT := x.st hS
    refine ⟨a, rfl, ⟨vs, hT⟩, fun D hD => ?_⟩
    refine lc_it (walk_tup (K := K) (a := a) (xs := vs)) (FmIn K xs f G H D) (FmIn.first x hD) ?_ ?_ ?_
    · rintro i H' hi ⟨G', acc, gr, _⟩
      exact gr.w.st (gr.g.st hS)
    · rintro i u H1 H' hi' hI ⟨rfl, hu⟩
      have hi : i < xs.length := by
        rw [← hlen]
        exact hi'
      obtain ⟨d', hd', ru⟩ := hr.at hu
      rw [List.getElem?_map, List.getElem?_eq_getElem hi] at hd'
      cases hd'
      exact FmIn.turn hD (List.getElem?_eq_getElem hi) hn hI fun G' gr => body i _ u G' _ (List.getElem?_eq_getElem hi) gr (ru.mono gr.g)
    · rintro H' ⟨G', acc, gr, gD, hacc, hr'⟩
      rw [hlen, List.take_length] at hr'
      exact done D G' H' acc ⟨gr, gD, hacc, hD⟩ hr'
end
theorem Acc.two {a p : Addr} {G H G1 H1 : Hp} {xs ys : List V} (s : Acc a G H G1 H1 xs) (hp : H1 p = none) : Two a p G H G1 (L2.upd H1 p (.lst ys)) xs ys :=
  ⟨s.gr.trans0 (Gro.up s.w (Ex.new hp)), s.gl, s.w.back hp, upd_old s.hl hp, upd_same, s.nl, s.gr.ex.back hp, fun z => by
    have := s.hl
    rw [z, hp] at this
    cases this⟩
theorem cntV_at {cs : List Nat} {p : Nat} (h : p < cs.length) : atI (cntV cs) (p : Int) = some (.int ((cs.getD p 0 : Nat) : Int)) := atI_nat (by rw [cntV, List.getElem?_map, List.getElem?_eq_getElem h, List.getD_eq_getElem?_getD, List.getElem?_eq_getElem h] <;> rfl)
theorem poss_any {M : MN} {W : Wd} (D : Deed) : (((possM M W).map Deed.d).any fun z => PyData.eqv z D.d) = canD M W D.d := due_can (by cases D <;> rfl)
theorem Bx.perm {K : PySem.W.Frag} {b : Addr} {G0 H0 G H : Hp} {cells cells' : List (Addr × HO)} (s : Bx K b G0 H0 G H cells) (p : cells.Perm cells') : Bx K b G0 H0 G H cells' :=
  ⟨s.gr, s.gb, s.pool, fun a o m => s.cs a o (p.mem_iff.mpr m), (p.map _).nodup_iff.mp s.nd⟩
theorem Bx.put2 {K : PySem.W.Frag} {b a : Addr} {G0 H0 G H : Hp} {o : HO} {c d : Addr × HO} {cells : List (Addr × HO)} (s : Bx K b G0 H0 G H (c :: d :: (a, o) :: cells)) (o2 : HO) : Bx K b G0 H0 G (L2.upd H a o2) (c :: d :: (a, o2) :: cells) :=
  ((s.perm ((List.Perm.cons c (List.Perm.swap _ _ _)).trans (List.Perm.swap _ _ _))).put0 o2).perm ((List.Perm.swap _ _ _).trans (List.Perm.cons c (List.Perm.swap _ _ _)))
/-! the walk of the law, and the program's -/
def zer (T : List (List Deed)) : List Nat := List.replicate T.length 0
def lwalk (M : MN) (T : List (List Deed)) : Option (List Deed) := if T.length = M.ps.length ∧ (gw M (startM M) T (zer T) true (tot T)).1.length = tot T then some (gw M (startM M) T (zer T) true (tot T)).1 else none
theorem zer_at (T : List (List Deed)) (p : Nat) : (zer T).getD p 0 = 0 := by
  unfold zer
  rw [List.getD_eq_getElem?_getD]
  cases z : (List.replicate T.length 0)[p]? with
  | none => rfl
  | some k => rw [List.eq_of_mem_replicate (List.mem_of_getElem? z)] <;> rfl
theorem zer_sum (T : List (List Deed)) : (zer T).sum = 0 := by
  unfold zer
  generalize T.length = n
  induction n with
  | zero => rfl
  | succ n ih =>
    show 0 + (List.replicate n 0).sum = 0
    rw [ih]
theorem zer_len (T : List (List Deed)) : (zer T).length = T.length := List.length_replicate
theorem zer_inv (M : MN) (T : List (List Deed)) (k : Nat) : GwI M (startM M) T (zer T) (gw M (startM M) T (zer T) true k).1 (gw M (startM M) T (zer T) true k).2 := gw_inv (.inl rfl) (zer_len T) (fun p _ => by rw [zer_at]; exact Nat.zero_le _) k
theorem lrun_walk {M : MN} {T : List (List Deed)} (h : lwalk M T = none) : lrun M T = none := by
  unfold lrun
  rw [if_neg]
  rintro ⟨h1, h2⟩
  have h3 := bA h1
  have own := fun p D hD => (allOwn_iff.mp (bA h3.2).2 p D hD).2
  have e := gw_own (W0 := startM M) (cs0 := zer T) own (tot T)
  unfold lwalk at h
  rw [if_pos ⟨of_decide_eq_true h3.1, by rw [← e]; exact h2⟩] at h
  cases h
theorem lwalk_some {M : MN} {T : List (List Deed)} {Es : List Deed} (h : lwalk M T = some Es) : T.length = M.ps.length ∧ Es.length = tot T ∧ RunM M (startM M) Es ∧ histM M Es = T := by
  unfold lwalk at h
  by_cases z : T.length = M.ps.length ∧ (gw M (startM M) T (zer T) true (tot T)).1.length = tot T
  · rw [if_pos z] at h
    cases h
    have g := zer_inv M T (tot T)
    have bd := g.bound.2 (by rw [zer_sum, z.2]; omega)
    refine ⟨z.1, z.2, g.run, ?_⟩
    unfold histM
    rw [← z.1]
    apply List.ext_getElem?
    intro p
    rw [List.getElem?_map]
    by_cases hp : p < T.length
    · rw [List.getElem?_range hp, List.getElem?_eq_getElem hp]
      show some (rowH M _ p) = some T[p]
      rw [g.row p hp, bd p hp, zer_at, List.drop_zero, List.take_length, List.getD_eq_getElem?_getD, List.getElem?_eq_getElem hp] <;> rfl
    · rw [List.getElem?_eq_none (by rw [List.length_range]; omega), List.getElem?_eq_none (by omega)] <;> rfl
  · rw [if_neg z] at h
    cases h
theorem lwalk_run {M : MN} {T : List (List Deed)} {Es : List Deed} (h : lwalk M T = some Es) (h6 : tot T ≤ 60) : lrun M T = some Es := by
  obtain ⟨hl, hn, hR, hT⟩ := lwalk_some h
  have own : ∀ p, ∀ D ∈ T.getD p [], isDeedD M.N D.d = true ∧ ownM M D = p := fun p D hD => by
    rw [← hT] at hD
    unfold histM at hD
    rw [List.getD_eq_getElem?_getD, List.getElem?_map] at hD
    by_cases hp : p < M.ps.length
    · rw [List.getElem?_range hp] at hD
      have hm : D ∈ rowH M Es p := hD
      unfold rowH at hm
      obtain ⟨m1, m2⟩ := List.mem_filter.mp hm
      obtain ⟨d1, d2⟩ := hR.dv D m1
      exact ⟨isD_of d1 d2, of_decide_eq_true m2⟩
    · rw [List.getElem?_eq_none (by rw [List.length_range]; omega)] at hD
      cases hD
  have hok : okRows M T = true := by
    unfold okRows
    rw [decide_eq_true hl, decide_eq_true h6, allOwn_iff.mpr own] <;> rfl
  have e := gw_own (W0 := startM M) (cs0 := zer T) (fun p D hD => (own p D hD).2) (tot T)
  have hE : Es = (gw M (startM M) T (zer T) true (tot T)).1 := by
    unfold lwalk at h
    by_cases z : T.length = M.ps.length ∧ (gw M (startM M) T (zer T) true (tot T)).1.length = tot T
    · rw [if_pos z] at h
      exact (Option.some.inj h).symm
    · rw [if_neg z] at h
      cases h
  unfold lrun
  have e2 : (gw M (startM M) T (List.replicate T.length 0) false (tot T)).1 = Es := by
    rw [hE]
    exact congrArg Prod.fst e
  rw [e2, if_pos ⟨hok, hn⟩]
theorem sum_add : ∀ (xs : List Nat) (f g : Nat → Nat), (xs.map fun x => f x + g x).sum = (xs.map f).sum + (xs.map g).sum
  | [], _, _ => rfl
  | x :: r, f, g => by
    have := sum_add r f g
    show f x + g x + (r.map fun x => f x + g x).sum = f x + (r.map f).sum + (g x + (r.map g).sum)
    omega
theorem sum_one : ∀ (n o : Nat), o < n → ((List.range n).map fun p => if o = p then 1 else 0).sum = 1
  | 0, _, h => absurd h (by omega)
  | n + 1, o, h => by
    rw [List.range_succ, List.map_append, List.sum_append]
    by_cases z : o = n
    · subst z
      have e : ((List.range o).map fun p => if o = p then 1 else 0).sum = 0 := by
        have : ((List.range o).map fun p => if o = p then 1 else 0) = (List.range o).map fun _ => 0 := List.map_congr_left fun p hp => by
          rw [if_neg (by have := List.mem_range.mp hp; omega)]
        rw [this]
        clear this h
        generalize List.range o = l
        induction l with
        | nil => rfl
        | cons a l ih =>
          show 0 + (l.map fun _ => 0).sum = 0
          rw [ih]
      rw [e]
      show 0 + ((if o = o then 1 else 0) + 0) = 1
      simp
    · rw [sum_one n o (by omega)]
      show 1 + ((if o = n then 1 else 0) + 0) = 1
      simp [z]
theorem tot_hist {M : MN} : ∀ {Ds : List Deed}, (∀ D ∈ Ds, ownM M D < M.ps.length) → tot (histM M Ds) = Ds.length
  | [], _ => by
    unfold tot histM
    rw [List.map_map]
    show ((List.range M.ps.length).map fun p => 0).sum = 0
    generalize List.range M.ps.length = l
    induction l with
    | nil => rfl
    | cons a l ih =>
      show 0 + (l.map fun _ => 0).sum = 0
      rw [ih]
  | D :: Ds, h => by
    have ih := tot_hist (M := M) (Ds := Ds) fun X hX => h X (List.mem_cons_of_mem _ hX)
    unfold tot histM at ih ⊢
    rw [List.map_map] at ih ⊢
    have e : (List.range M.ps.length).map (List.length ∘ rowH M (D :: Ds)) = (List.range M.ps.length).map fun p => (List.length ∘ rowH M Ds) p + if ownM M D = p then 1 else 0 := List.map_congr_left fun p _ => by
      show (rowH M (D :: Ds) p).length = (rowH M Ds p).length + _
      unfold rowH
      rw [List.filter_cons]
      by_cases z : ownM M D = p
      · rw [if_pos (decide_eq_true z), if_pos z] <;> rfl
      · rw [if_neg (by rw [decide_eq_false z]; decide), if_neg z] <;> rfl
    rw [e, sum_add, ih, sum_one _ _ (h D (List.mem_cons_self ..))] <;> rfl
theorem hist_len (M : MN) (Ds : List Deed) : (histM M Ds).length = M.ps.length := by rw [histM, List.length_map, List.length_range]
theorem hist_at {M : MN} {Ds : List Deed} {p : Nat} (hp : p < M.ps.length) : (histM M Ds).getD p [] = rowH M Ds p := by
  rw [histM, List.getD_eq_getElem?_getD, List.getElem?_map, List.getElem?_range hp] <;> rfl
theorem hist_sm {M : MN} {Ds : List Deed} (mn : MNet M) (hl : Ds.length ≤ 900) (h5 : M.ps.length ≤ 100) : SmT (histM M Ds) := by
  refine ⟨by rw [hist_len]; exact h5, fun r hr => ?_⟩
  obtain ⟨p, _, rfl⟩ := List.mem_map.mp hr
  have := rowH_len M Ds p
  omega
theorem walk_hist {M : MN} {Ds : List Deed} (mn : MNet M) (hR : RunM M (startM M) Ds) (hl : Ds.length ≤ 800) : ∃ Es, lwalk M (histM M Ds) = some Es := by
  have ht : tot (histM M Ds) = Ds.length := tot_hist fun D hD => own_lt mn (hR.dv D hD).1
  have h := (gw_full (M := M) (W0 := startM M) (B := 0) (T := histM M Ds) (cs0 := zer (histM M Ds)) (Ds := Ds) (o := true) mn (start_ok M) ?_ (.inl rfl) (hist_len M Ds) (zer_len _) (fun p _ => by rw [zer_at]; exact Nat.zero_le _) hR (fun p hp => ?_) Ds.length (Nat.le_refl _)).1
  · exact ⟨_, if_pos ⟨hist_len M Ds, by rw [ht]; exact h⟩⟩
  · intro c m hm
    have e : rowM (startM M) c = [] := by
      unfold rowM startM
      rw [List.getD_eq_getElem?_getD]
      cases z : (List.replicate M.C.length ([] : List (Nat × Nat)))[c]? with
      | none => rfl
      | some k => rw [List.eq_of_mem_replicate (List.mem_of_getElem? z)] <;> rfl
    have hm2 : m ∈ rowM (startM M) c := hm
    rw [e] at hm2
    cases hm2
  · rw [hist_len] at hp
    rw [zer_at, List.drop_zero, hist_at hp]
theorem tn_deed {n : Nat} (D : Deed) : Tn (n + 2) D.d := by
  cases D <;> exact ⟨by simp [Deed.ps], fun d hd => by
    simp only [Deed.ps, List.mem_cons, List.mem_nil_iff, or_false] at hd
    rcases hd with rfl | rfl | rfl <;> exact True.intro⟩
theorem tn_deeds {n : Nat} {l : List Deed} (h : l.length ≤ 1000000) : Tn (n + 3) (.tuple (l.map Deed.d)) := tn_row (by rw [List.length_map]; exact h) fun d hd => by
  obtain ⟨D, _, rfl⟩ := List.mem_map.mp hd
  exact tn_deed D
theorem tn_rows {n : Nat} {T : List (List Deed)} (h : SmT T) : Tn (n + 4) (rowsD true true true T) := tn_row (by rw [List.length_map]; have := h.1; omega) fun d hd => by
  obtain ⟨r, hr, rfl⟩ := List.mem_map.mp hd
  exact tn_deeds (by have := h.2 r hr; omega)
/-! slices, and how many deeds there are -/
theorem cutL_to {α : Type} (xs : List α) (k : Nat) : cutL xs none (some (k : Int)) = xs.take k := by
  unfold cutL
  rw [HT.sIx_nat, HT.sIx_none, Nat.sub_zero, List.drop_zero]
  by_cases h : k ≤ xs.length
  · rw [Nat.min_eq_left h]
  · rw [Nat.min_eq_right (by omega), List.take_of_length_le (Nat.le_refl _), List.take_of_length_le (by omega)]
theorem cutL_from {α : Type} (xs : List α) (k : Nat) : cutL xs (some (k : Int)) none = xs.drop k := by
  unfold cutL
  rw [HT.sIx_nat, HT.sIx_none]
  by_cases h : k ≤ xs.length
  · rw [Nat.min_eq_left h]
    exact List.take_of_length_le (by rw [List.length_drop]; exact Nat.le_refl _)
  · rw [Nat.min_eq_right (by omega), List.drop_eq_nil_of_le (Nat.le_refl _), List.drop_eq_nil_of_le (by omega), List.take_nil]
theorem cutL_mid {α : Type} (xs : List α) (i j : Nat) : (cutL xs (some (i : Int)) (some (j : Int))).length ≤ j - i := by
  unfold cutL
  rw [HT.sIx_nat, HT.sIx_nat, List.length_take, List.length_drop]
  omega
theorem tot_app (S T : List (List Deed)) : tot (S ++ T) = tot S + tot T := by
  unfold tot
  rw [List.map_append, List.sum_append]
theorem tot_drop (T : List (List Deed)) (n : Nat) : tot (T.drop n) ≤ tot T := by
  have e : tot T = tot (T.take n) + tot (T.drop n) := by rw [← tot_app, List.take_append_drop]
  omega
theorem tot_take (T : List (List Deed)) (n : Nat) : tot (T.take n) ≤ tot T := by
  have e : tot T = tot (T.take n) + tot (T.drop n) := by rw [← tot_app, List.take_append_drop]
  omega
theorem tot_cut (T : List (List Deed)) (lo hi : Option Int) : tot (cutL T lo hi) ≤ tot T := by
  unfold cutL
  exact Nat.le_trans (tot_take _ _) (tot_drop _ _)
theorem tot_rev (T : List (List Deed)) : tot T.reverse = tot T := by
  induction T with
  | nil => rfl
  | cons r T ih =>
    rw [List.reverse_cons, tot_app, ih]
    show tot T + (r.length + 0) = r.length + tot T
    omega
theorem tot_set : ∀ {T : List (List Deed)} {p : Nat} {r : List Deed}, p < T.length → tot (T.set p r) + (T.getD p []).length = tot T + r.length
  | [], p, _, h => absurd h (by simp)
  | t :: T, 0, r, _ => by
    show r.length + tot T + t.length = t.length + tot T + r.length
    omega
  | t :: T, p + 1, r, h => by
    have := tot_set (T := T) (p := p) (r := r) (by simpa using h)
    show t.length + tot (T.set p r) + (T.getD p []).length = t.length + tot T + r.length
    omega
theorem sm_of {T : List (List Deed)} (h1 : T.length ≤ 100) (h2 : tot T ≤ 800) : SmT T := ⟨h1, fun r hr => by
  obtain ⟨p, hp, rfl⟩ := List.getElem_of_mem hr
  have := row_tot T p
  rw [List.getD_eq_getElem?_getD, List.getElem?_eq_getElem hp] at this
  have h3 : T[p].length ≤ tot T := this
  omega⟩
/-! what the law's defs promise -/
def sp_walked (K : PySem.W.Frag) : Sp := fun vs H Q _ => ∃ (G : Hp) (n : Addr) (M : MN) (u : V) (T : List (List Deed)), vs = [.ref n, u] ∧ Ex G H ∧ NetL K G n M ∧ MNOk M ∧ Rp K G u (rowsD true true true T) ∧ SmT T ∧ tot T ≤ 800 ∧
  (lwalk M T = none → ∀ H', Ex H H' → Q .non H') ∧ (∀ Es, lwalk M T = some Es → ∀ G2 H2 p, Gro none G H G2 H2 → Rp K G2 (.ref p) (.list (Es.map Deed.d)) → Q (.ref p) H2)
def sp_odeed (K : PySem.W.Frag) : Sp := fun vs H Q _ => ∃ (G : Hp) (b n : Addr) (kvs : List (Key × V)) (M : MN) (u : V) (D : Deed), vs = [.ref b, .ref n, u] ∧ Ex G H ∧ G b = none ∧ H b = some (.dK kvs) ∧ PoolD K G kvs ∧ NetL K G n M ∧ MNOk M ∧ Rp K G u D.d ∧
  ∀ (v : V) (D' : Deed) (G' H' : Hp), Bx K b G H G' H' [] → Rp K G' v D'.d → Q v H'
def sp_spoilt (K : PySem.W.Frag) : Sp := fun vs H Q _ => ∃ (G : Hp) (b n : Addr) (kvs : List (Key × V)) (M : MN) (u : V) (T : List (List Deed)), vs = [.ref b, .ref n, u] ∧ Ex G H ∧ G b = none ∧ H b = some (.dK kvs) ∧ PoolD K G kvs ∧ NetL K G n M ∧ MNOk M ∧ Rp K G u (rowsD true true true T) ∧ T.length ≤ 90 ∧ tot T ≤ 700 ∧
  ∀ (v : V) (T' : List (List Deed)) (G' H' : Hp), Bx K b G H G' H' [] → Rp K G' v (rowsD true true true T') → T'.length ≤ T.length + 1 → tot T' ≤ tot T + 1 → Q v H'
def sp_circle (K : PySem.W.Frag) : Sp := fun vs H Q _ => ∃ (G : Hp) (b : Addr) (kvs : List (Key × V)), vs = [.ref b] ∧ Ex G H ∧ G b = none ∧ H b = some (.dK kvs) ∧ PoolD K G kvs ∧
  ∀ (p n : Addr) (u : V) (ps cs rs : List PyData) (T : List (List Deed)) (G' H' : Hp), Bx K b G H G' H' [] → G' p = some (.tup [.ref n, u]) → NetL K G' n (mnOf ps cs rs) → LNet ps cs rs → Rp K G' u (rowsD true true true T) → T.length ≤ 3 → tot T ≤ 6 → Q (.ref p) H'
def sp_asked10 (K : PySem.W.Frag) (C : Addr) : Sp := fun vs H Q _ => ∃ (G : Hp) (a : Addr) (M : MN) (u : V) (e c b : Bool) (T : List (List Deed)), vs = [.ref a, u] ∧ Ex G H ∧ NetAt K C G a M.N ∧ MNOk M ∧ NOk M.N ∧ Rp K G u (rowsD e c b T) ∧ SmT T ∧
  (lrun M T = none → ∀ G2 H2 p, Gro none G H G2 H2 → Rp K G2 (.ref p) (.tuple [.str "step", .int 0]) → Q (.ref p) H2) ∧ (∀ Es, lrun M T = some Es → ∀ G2 H2 p, Gro none G H G2 H2 → Rp K G2 (.ref p) (.tuple [.str "told", .tuple (Es.map Deed.d)]) → Q (.ref p) H2)
def sp_agrees10 (K : PySem.W.Frag) (C : Addr) : Sp := fun vs H Q _ => ∃ (G : Hp) (n a : Addr) (M : MN) (u : V) (T : List (List Deed)), vs = [.ref n, .ref a, u] ∧ Ex G H ∧ NetL K G n M ∧ NetAt K C G a M.N ∧ MNet M ∧ NOk M.N ∧ Rp K G u (rowsD true true true T) ∧ SmT T ∧ tot T ≤ 60 ∧ ∀ H', Ex H H' → Q (.bl true) H'
end Cw

set_option maxHeartbeats 4000000
/-! what is a history, what is none; sixty deeds and more -/
namespace Cw
open PySem PySem.Spec PyProof.Rows L2
def OutR (M : MN) (d : PyData) (Ds : List Deed) : Prop := ∃ b c : Bool, d = sqD c (Ds.map (sqd b)) ∧ RunM M (startM M) Ds ∧ Ds.length ≤ 60
def OutE (M : MN) (d : PyData) (i : Nat) : Prop := ∃ ds : List PyData, Seq d ds ∧ i < ds.length ∧ GoesM M (startM M) 60 ds i ∧ ¬ GoesM M (startM M) 60 ds (i + 1)
theorem shp_out {M : MN} {d : PyData} {Ds : List Deed} (h : OutR M d Ds) : Shp d := by
  obtain ⟨b, c, rfl, _, hl⟩ := h
  exact shp_run (by omega)
theorem bad_out {M : MN} {Ds : List Deed} {at_ : Nat} {d : PyData} {es : List PyData} (hR : RunM M (startM M) Ds) (hl : Ds.length ≤ 60) (ha : at_ ≤ Ds.length) (hd : canD M (endW M (startM M) (Ds.take at_)) d = false) : OutE M (.list ((Ds.map (sqd true)).take at_ ++ d :: es)) at_ := by
  obtain ⟨h1, h2⟩ := goes_bad (b := true) (r := 60) hR (by omega) ha hd es
  exact ⟨_, .inl rfl, by rw [List.length_append, List.length_take, List.length_map, List.length_cons]; omega, h1, h2⟩
theorem bad_shp {Ds : List Deed} {at_ : Nat} {d : PyData} {es : List PyData} (hl : Ds.length ≤ 1000) (he : es.length ≤ 1000) (okd : okD 3 d = true) (hes : ∀ x ∈ es, okD 3 x = true) : Shp (.list ((Ds.map (sqd true)).take at_ ++ d :: es)) :=
  shp_row (b := false) (n := 3) (by decide) (by rw [List.length_append, List.length_cons, List.length_take, List.length_map]; omega) fun x hx => by
    rcases List.mem_append.mp hx with h | h
    · obtain ⟨D, _, rfl⟩ := List.mem_map.mp (List.mem_of_mem_take h)
      exact okD_le (okD_sqd true D) (by decide)
    · rcases List.mem_cons.mp h with rfl | h
      · exact okd
      · exact hes x h
/-! rows of any things -/
def rowsG (e c : Bool) (rows : List (List PyData)) : PyData := sqD e (rows.map (sqD c))
theorem rowsD_G (e c b : Bool) (T : List (List Deed)) : rowsD e c b T = rowsG e c (T.map fun r => r.map (sqd b)) := by
  unfold rowsD rowsG
  rw [List.map_map]
  rfl
def SmG (rows : List (List PyData)) : Prop := rows.length ≤ 100 ∧ ∀ r ∈ rows, r.length ≤ 900
theorem smT_G {T : List (List Deed)} (h : SmT T) (b : Bool) : SmG (T.map fun r => r.map (sqd b)) := ⟨by rw [List.length_map]; exact h.1, fun r hr => by
  obtain ⟨r', hr', rfl⟩ := List.mem_map.mp hr
  rw [List.length_map]
  exact h.2 r' hr'⟩
theorem tot_G (T : List (List Deed)) (b : Bool) : ((T.map fun r => r.map (sqd b)).map List.length).sum = tot T := by
  unfold tot
  rw [List.map_map]
  congr 1
  exact List.map_congr_left fun r _ => List.length_map ..
/-- what tells no rows of own deeds -/
def Odd (M : MN) (d : PyData) : Prop := Shp d ∧ (isRow (M.ps.length : Nat) d = false ∨ (∃ b ds, d = sqD b ds ∧ ds.length = M.ps.length ∧ ds.all dSeq = false) ∨ (∃ e c rows, d = rowsG e c rows ∧ rows.length = M.ps.length ∧ (∀ r ∈ rows, r.length ≤ 10 ∧ ∀ x ∈ r, isDeedD M.N x = false ∧ Shp x) ∧ ∃ r ∈ rows, r ≠ []))
def sp_manyG (K : PySem.W.Frag) : Sp := fun vs H Q _ => ∃ (G : Hp) (u : V) (e c : Bool) (rows : List (List PyData)), vs = [u] ∧ Ex G H ∧ Rp K G u (rowsG e c rows) ∧ SmG rows ∧ ∀ H', Ex H H' → Q (.int ((rows.map List.length).sum : Nat)) H'
def sp_arows8 (K : PySem.W.Frag) (C : Addr) : Sp := fun vs H Q _ => ∃ (G : Hp) (a : Addr) (M : MN) (u : V), vs = [.ref a, u] ∧ Ex G H ∧ NetAt K C G a M.N ∧ MNOk M ∧ NOk M.N ∧
  ((∃ (e c b : Bool) (T : List (List Deed)), Rp K G u (rowsD e c b T) ∧ SmT T ∧ ∀ H', Ex H H' → Q (.bl (okRows M T)) H') ∨ (∃ d, Rp K G u d ∧ Odd M d ∧ ∀ H', Ex H H' → Q (.bl false) H'))
def sp_runof8 (K : PySem.W.Frag) (C : Addr) : Sp := fun vs H Q _ => ∃ (G : Hp) (a : Addr) (M : MN) (u : V), vs = [.ref a, u] ∧ Ex G H ∧ NetAt K C G a M.N ∧ MNOk M ∧ NOk M.N ∧
  ((∃ (e c b : Bool) (T : List (List Deed)), Rp K G u (rowsD e c b T) ∧ SmT T ∧ (lrun M T = none → ∀ H', Ex H H' → Q .non H') ∧ (∀ Es, lrun M T = some Es → ∀ G2 H2 p, Gro none G H G2 H2 → Rp K G2 (.ref p) (.tuple (Es.map Deed.d)) → Q (.ref p) H2)) ∨
   (∃ d, Rp K G u d ∧ Odd M d ∧ ∀ H', Ex H H' → Q .non H'))
/-- whether it is one: of rows of deeds, of other things -/
def IsH (K : PySem.W.Frag) (G : Hp) (M : MN) (u : V) (yes : Bool) : Prop := (∃ (e c b : Bool) (T : List (List Deed)), Rp K G u (rowsD e c b T) ∧ SmT T ∧ (lrun M T).isSome = yes) ∨ (∃ d, Rp K G u d ∧ Odd M d ∧ yes = false)
def sp_ishist (K : PySem.W.Frag) (C : Addr) : Sp := fun vs H Q _ => ∃ (G : Hp) (a : Addr) (M : MN) (u : V) (yes : Bool), vs = [.ref a, u] ∧ Ex G H ∧ NetAt K C G a M.N ∧ MNOk M ∧ NOk M.N ∧ IsH K G M u yes ∧ ∀ H', Ex H H' → Q (.bl yes) H'
def sp_is8 (K : PySem.W.Frag) (C : Addr) : Sp := fun vs H Q _ => ∃ (G : Hp) (a : Addr) (M : MN) (u : V) (yes : Bool), vs = [.ref a, u, .bl yes] ∧ Ex G H ∧ NetAt K C G a M.N ∧ MNOk M ∧ NOk M.N ∧ IsH K G M u yes ∧ ∀ H', Ex H H' → Q (.bl true) H'
def sp_asked8 (K : PySem.W.Frag) (C : Addr) : Sp := fun vs H Q _ => ∃ (G : Hp) (a : Addr) (M : MN) (u : V) (d : PyData), vs = [.ref a, u] ∧ Ex G H ∧ NetAt K C G a M.N ∧ MNet M ∧ NOk M.N ∧ Rp K G u d ∧ Shp d ∧
  ((∃ Ds, OutR M d Ds ∧ ∀ G2 H2 p, Gro none G H G2 H2 → Rp K G2 (.ref p) (.tuple [.str "told", histD M Ds]) → Q (.ref p) H2) ∨
   (∃ i : Nat, OutE M d i ∧ ∀ G2 H2 p, Gro none G H G2 H2 → Rp K G2 (.ref p) (.tuple [.str "step", .int (i : Int)]) → Q (.ref p) H2))
theorem bools_no {M : MN} {rows : List (List PyData)} (h : ∀ r ∈ rows, ∀ x ∈ r, isDeedD M.N x = false) (hne : ∃ r ∈ rows, r ≠ []) : (boolsF (ownF M) rows rows.length).all id = false := by
  cases e : (boolsF (ownF M) rows rows.length).all id with
  | false => rfl
  | true =>
    unfold boolsF at e
    rw [all_flat] at e
    obtain ⟨r, hr, hn⟩ := hne
    obtain ⟨i, hi, rfl⟩ := List.getElem_of_mem hr
    have h1 := List.all_eq_true.mp e i (List.mem_range.mpr hi)
    have eg : rows.getD i [] = rows[i] := by rw [List.getD_eq_getElem?_getD, List.getElem?_eq_getElem hi] <;> rfl
    rw [eg] at h1
    cases hx : rows[i] with
    | nil => exact absurd hx hn
    | cons x t =>
      rw [hx] at h1
      have h2 := h rows[i] hr x (by rw [hx]; exact List.mem_cons_self ..)
      rw [List.map_cons, List.all_cons] at h1
      have h3 : ownF M i x = true := (bA h1).1
      unfold ownF at h3
      rw [h2] at h3
      cases h3
/-! nothing is there to be taken at the start -/
theorem start_row (M : MN) (c : Nat) : rowM (startM M) c = [] := by
  unfold rowM startM
  rw [List.getD_eq_getElem?_getD]
  cases z : (List.replicate M.C.length ([] : List (Nat × Nat)))[c]? with
  | none => rfl
  | some k => rw [List.eq_of_mem_replicate (List.mem_of_getElem? z)] <;> rfl
theorem start_hand (M : MN) (c : Nat) : hand M (startM M) c = [] := by
  unfold hand
  rw [start_row]
  split <;> rfl
theorem no_take {M : MN} {r k : Nat} : Deed.take r k ∉ possM M (startM M) := fun h => by
  rcases poss_mem h with ⟨r', hr', h⟩ | ⟨c, _, h⟩
  · rw [rule_gives hr'] at h
    split at h
    · cases e : M.R[r'].a with
      | take c t =>
        rw [e] at h
        have h2 : Deed.take r k ∈ takesM M (startM M) r' c t := h
        unfold takesM at h2
        rw [start_hand] at h2
        cases h2
      | send c t =>
        rw [e] at h
        have h2 : Deed.take r k ∈ [Deed.act r'] := h
        cases List.mem_singleton.mp h2
      | do_ =>
        rw [e] at h
        have h2 : Deed.take r k ∈ [Deed.act r'] := h
        cases List.mem_singleton.mp h2
    · cases h
  · obtain ⟨_, e, _⟩ := loss_mem h
    cases e
theorem ring_none {M : MN} {T : List (List Deed)} (h : ∀ r ∈ T, ∃ i k rest, r = Deed.take i k :: rest) (h0 : 0 < tot T) : lrun M T = none := by
  unfold lrun
  rw [if_neg]
  rintro ⟨_, h2⟩
  have en : next M (endW M (startM M) (gw M (startM M) T (List.replicate T.length 0) false 0).1) T (gw M (startM M) T (List.replicate T.length 0) false 0).2 false = none := by
    unfold next
    rw [List.find?_eq_none]
    intro p hp
    have hp' := List.mem_range.mp hp
    show ¬ cand M (startM M) T (zer T) false p = true
    have hr := h T[p] (List.getElem_mem hp')
    obtain ⟨i, k, rest, er⟩ := hr
    have eg : getT T (zer T) p = some (.take i k) := by
      unfold getT
      rw [zer_at, List.getD_eq_getElem?_getD, List.getElem?_eq_getElem hp']
      show T[p][0]? = _
      rw [er] <;> rfl
    unfold cand
    rw [eg]
    have : canD M (startM M) (Deed.take i k).d = false := by
      cases e : canD M (startM M) (Deed.take i k).d with
      | false => rfl
      | true => exact absurd (can_mem.mp e) no_take
    simp [this]
  rw [gw_stop en (tot T) (Nat.zero_le _)] at h2
  have : (gw M (startM M) T (List.replicate T.length 0) false 0).1.length = 0 := rfl
  omega
def sp_circle8 (K : PySem.W.Frag) : Sp := fun vs H Q _ => ∃ (G : Hp) (b : Addr) (kvs : List (Key × V)), vs = [.ref b] ∧ Ex G H ∧ G b = none ∧ H b = some (.dK kvs) ∧ PoolD K G kvs ∧
  ∀ (p n : Addr) (u : V) (ps cs rs : List PyData) (T : List (List Deed)) (G' H' : Hp), Bx K b G H G' H' [] → G' p = some (.tup [.ref n, u]) → NetL K G' n (mnOf ps cs rs) → LNet ps cs rs → Rp K G' u (rowsD true true true T) → T.length ≤ 3 → tot T ≤ 6 → 0 < tot T → (∀ r ∈ T, ∃ i k rest, r = Deed.take i k :: rest) → Q (.ref p) H'
/-! many deeds without a message -/
def longRs (m : Nat) : List PyData := (List.range m).map fun p : Nat => .tuple [.int (p : Int), .int 0, .tuple [.str "do"], .int 0]
theorem long_at {ps : List PyData} {m p : Nat} (hp : p < m) : (mnOf ps [] (longRs m)).R[p]? = some ⟨p, 0, .do_, 0⟩ := by
  show ((longRs m).map rulOf)[p]? = _
  unfold longRs
  rw [List.getElem?_map, List.getElem?_map, List.getElem?_range hp]
  rfl
theorem long_poss {ps : List PyData} {m p : Nat} {W : Wd} (hp : p < m) (hW : W.s = List.replicate m 0) : Deed.act p ∈ possM (mnOf ps [] (longRs m)) W ∧ (stepM (mnOf ps [] (longRs m)) W (.act p)).s = List.replicate m 0 := by
  have hR := long_at (ps := ps) hp
  have hl : p < (mnOf ps [] (longRs m)).R.length := (List.getElem?_eq_some_iff.mp hR).1
  constructor
  · unfold possM
    refine List.mem_append_left _ (List.mem_flatten.mpr ⟨_, List.mem_map.mpr ⟨p, List.mem_range.mpr hl, rfl⟩, ?_⟩)
    unfold ruleM
    rw [hR]
    show Deed.act p ∈ if W.s[p]? = some 0 then [Deed.act p] else []
    rw [hW, List.getElem?_replicate, if_pos hp, if_pos rfl]
    exact List.mem_singleton.mpr rfl
  · show (stepM (mnOf ps [] (longRs m)) W (.act p)).s = _
    simp only [stepM, hR]
    rw [hW]
    apply List.ext_getElem?
    intro i
    rw [List.getElem?_set, List.getElem?_replicate, List.length_replicate]
    by_cases z : p = i
    · subst z
      rw [if_pos rfl]
    · rw [if_neg z]
theorem long_run {ps : List PyData} {m : Nat} : ∀ {Ds : List Deed} {W : Wd}, (∀ D ∈ Ds, ∃ p, p < m ∧ D = .act p) → W.s = List.replicate m 0 → RunM (mnOf ps [] (longRs m)) W Ds
  | [], _, _, _ => trivial
  | D :: Ds, W, h, hW => by
    obtain ⟨p, hp, rfl⟩ := h D (List.mem_cons_self ..)
    obtain ⟨h1, h2⟩ := long_poss (ps := ps) hp hW
    exact ⟨h1, long_run (fun X hX => h X (List.mem_cons_of_mem _ hX)) h2⟩
def sp_long (K : PySem.W.Frag) : Sp := fun vs H Q _ => ∃ (G : Hp) (b : Addr) (kvs : List (Key × V)), vs = [.ref b] ∧ Ex G H ∧ G b = none ∧ H b = some (.dK kvs) ∧ PoolD K G kvs ∧
  ∀ (p n dl : Addr) (ps : List PyData) (Ds : List Deed) (G' H' : Hp), Bx K b G H G' H' [] → G' p = some (.tup [.ref n, .ref dl]) → NetL K G' n (mnOf ps [] (longRs ps.length)) → LNet ps [] (longRs ps.length) → Rp K G' (.ref dl) (.list (Ds.map Deed.d)) → Ds.length = 60 → (∀ D ∈ Ds, ∃ p, p < ps.length ∧ D = .act p) → Q (.ref p) H'
def sp_sixty (K : PySem.W.Frag) : Sp := fun vs H Q _ => ∃ (G : Hp) (b : Addr) (kvs : List (Key × V)), vs = [.ref b] ∧ Ex G H ∧ G b = none ∧ H b = some (.dK kvs) ∧ PoolD K G kvs ∧ ∀ H', Q (.bl true) H'
theorem run_isH {M : MN} {Ds : List Deed} (mn : MNet M) (hR : RunM M (startM M) Ds) (hl : Ds.length ≤ 60) : (lrun M (histM M Ds)).isSome = true := by
  obtain ⟨Es, hE⟩ := walk_hist mn hR (by omega)
  have ht : tot (histM M Ds) = Ds.length := tot_hist fun D hD => own_lt mn (hR.dv D hD).1
  rw [lwalk_run hE (by omega)] <;> rfl
theorem long_isH {M : MN} {T : List (List Deed)} (h : 60 < tot T) : (lrun M T).isSome = false := by
  unfold lrun
  rw [if_neg] <;> try rfl
  rintro ⟨h1, _⟩
  have := of_decide_eq_true (bA (bA h1).2).1
  omega
theorem walk_isH {M : MN} {T : List (List Deed)} (h : tot T ≤ 60) : (lrun M T).isSome = (lwalk M T).isSome := by
  cases e : lwalk M T with
  | none => rw [lrun_walk e]
  | some Es => rw [lwalk_run e h]
theorem acts_of {m : Nat} : ∀ {es : List PyData}, (∀ d ∈ es, ∃ p, p < m ∧ d = (Deed.act p).d) → ∃ Ds : List Deed, es = Ds.map Deed.d ∧ ∀ D ∈ Ds, ∃ p, p < m ∧ D = .act p
  | [], _ => ⟨[], rfl, by simp⟩
  | d :: es, h => by
    obtain ⟨p, hp, e⟩ := h d (List.mem_cons_self ..)
    obtain ⟨Ds, e2, h2⟩ := acts_of (es := es) fun x hx => h x (List.mem_cons_of_mem _ hx)
    refine ⟨.act p :: Ds, by rw [e, e2] <;> rfl, fun D hD => ?_⟩
    rcases List.mem_cons.mp hD with rfl | hD
    · exact ⟨p, hp, rfl⟩
    · exact h2 D hD
theorem long_lnet {zs : List Str} (h1 : 1 ≤ zs.length) (h3 : zs.length ≤ 3) (nz : zs.Nodup) (nm : ∀ z ∈ zs, isName (.str z) = true) : LNet (zs.map fun z => .tuple [.str z, .int 1]) [] (longRs zs.length) := by
  have pk : ∀ d ∈ zs.map (fun z => PyData.tuple [.str z, .int 1]), PrN d := fun d hd => by
    obtain ⟨z, hz, rfl⟩ := List.mem_map.mp hd
    exact ⟨z, 1, rfl, nm z hz, by decide, by decide⟩
  refine ⟨by rw [List.length_map]; exact h1, by rw [List.length_map]; omega, pk, ?_, by simp, by simp, by simp, by unfold longRs; rw [List.length_map, List.length_range]; omega, fun r hr => ?_⟩
  · rw [List.map_map]
    have e : ((fun c => strOf (atD c 0)) ∘ fun z : Str => PyData.tuple [.str z, .int 1]) = id := funext fun z => rfl
    rw [e, List.map_id]
    exact nz
  · unfold longRs at hr
    obtain ⟨p, hp, rfl⟩ := List.mem_map.mp hr
    have hp' := List.mem_range.mp hp
    exact ⟨p, 0, 0, _, zs[p], 1, rfl, by rw [List.getElem?_map, List.getElem?_eq_getElem hp'] <;> rfl, by decide, by decide, .inl rfl⟩
theorem odd_prim {M : MN} {d : PyData} (hs : Shp d) (h : items d = none) : Odd M d := ⟨hs, .inl (by unfold isRow; rw [h])⟩
theorem okD_rep {k n : Nat} {d : PyData} (hn : n ≤ 100) (h : okD k d = true) : okD (k + 1) (.tuple (List.replicate n d)) = true := okD_tup (by rw [List.length_replicate]; omega) fun x hx => by rw [List.eq_of_mem_replicate hx]; exact h
theorem odd_nons {M : MN} (h1 : 1 ≤ M.ps.length) (h5 : M.ps.length ≤ 5) : Odd M (.tuple (List.replicate M.ps.length .none)) := by
  refine ⟨okD_le (okD_rep (k := 0) (by omega) (by decide +kernel)) (by decide), .inr (.inl ⟨true, _, rfl, List.length_replicate, ?_⟩)⟩
  generalize M.ps.length = n at h1
  cases n with
  | zero => omega
  | succ n => rfl
theorem odd_rows {M : MN} {x : PyData} (h1 : 1 ≤ M.ps.length) (h5 : M.ps.length ≤ 5) (hx : okD 1 x = true) (hn : isDeedD M.N x = false) : Odd M (.tuple (List.replicate M.ps.length (.tuple [x]))) := by
  have hx2 : okD 2 (.tuple [x]) = true := okD_tup (by simp) fun d hd => by rw [List.mem_singleton.mp hd]; exact hx
  refine ⟨okD_le (okD_rep (k := 2) (by omega) hx2) (by decide), .inr (.inr ⟨true, true, List.replicate M.ps.length [x], ?_, List.length_replicate, fun r hr => ?_, [x], ?_, by simp⟩)⟩
  · unfold rowsG
    rw [List.map_replicate] <;> rfl
  · rw [List.eq_of_mem_replicate hr]
    refine ⟨by simp, fun d hd => ?_⟩
    rw [List.mem_singleton.mp hd]
    exact ⟨hn, okD_le hx (by decide)⟩
  · exact List.mem_replicate.mpr ⟨by omega, rfl⟩
theorem nodeed_int (N : NetD) (i : Int) : isDeedD N (.int i) = false := rfl
theorem nodeed_act (N : NetD) : isDeedD N (.tuple [.str "act"]) = false := rfl
theorem shp_word0 {d : PyData} (h : okD 60 d = true) : Shp d := h
end Cw

set_option maxHeartbeats 4000000
namespace Cw
open PySem PySem.Spec PyProof.Rows L2
structure Cst (K : PySem.W.Frag) (mg : Str → Option Value) where
  MOST_PROCESSES : ∃ t, mg "MOST_PROCESSES" = some (.int 5 t)
  MOST_STATES : ∃ t, mg "MOST_STATES" = some (.int 8 t)
  MOST_CHANNELS : ∃ t, mg "MOST_CHANNELS" = some (.int 8 t)
  MOST_RULES : ∃ t, mg "MOST_RULES" = some (.int 40 t)
  MANY_TOKENS : ∃ t, mg "MANY_TOKENS" = some (.int 10 t)
  LONGEST_NAME : ∃ t, mg "LONGEST_NAME" = some (.int 6 t)
  LETTERS : ∃ t, mg "LETTERS" = some (.str "abcdefghijklmnopqrstuvwxyz" t)
  ORDERED_a : Addr
  ORDERED : mg "ORDERED" = some (.ref ORDERED_a)
  ORDERED_s : ∀ H, SqT K H ORDERED_a [.str "order", .str "order lossy"]
  LOSSY_a : Addr
  LOSSY : mg "LOSSY" = some (.ref LOSSY_a)
  LOSSY_s : ∀ H, SqT K H LOSSY_a [.str "order lossy", .str "loose lossy"]
  KINDS_a : Addr
  KINDS : mg "KINDS" = some (.ref KINDS_a)
  KINDS_s : ∀ H, SqT K H KINDS_a [.str "order", .str "loose", .str "order lossy", .str "loose lossy"]
  MOST_DEEDS : ∃ t, mg "MOST_DEEDS" = some (.int 60 t)
theorem Cst.ordered {K : PySem.W.Frag} {mg : Str → Option Value} (cs : Cst K mg) (G : Hp) : Rp K G (.ref cs.ORDERED_a) (.tuple [.str "order", .str "order lossy"]) := .tup (cs.ORDERED_s G) (.cons (.str _) (.cons (.str _) .nil))
theorem Cst.lossy {K : PySem.W.Frag} {mg : Str → Option Value} (cs : Cst K mg) (G : Hp) : Rp K G (.ref cs.LOSSY_a) (.tuple [.str "order lossy", .str "loose lossy"]) := .tup (cs.LOSSY_s G) (.cons (.str _) (.cons (.str _) .nil))
theorem Cst.kinds {K : PySem.W.Frag} {mg : Str → Option Value} (cs : Cst K mg) (G : Hp) : Rp K G (.ref cs.KINDS_a) (.tuple [.str "order", .str "loose", .str "order lossy", .str "loose lossy"]) := .tup (cs.KINDS_s G) (.cons (.str _) (.cons (.str _) (.cons (.str _) (.cons (.str _) .nil))))
section
variable {P : Program} {w : World} {K : PySem.W.Frag} {mg : Str → Option Value} {base : Heap}
abbrev s_is_number : Stmt := topS 5
abbrev N_is_number : List Str := ["value"]
theorem sc_is_number : FnScope N_is_number ["value"] (defScope s_is_number) := ⟨rfl, rfl, rfl, by decide +kernel, rfl, by decide +kernel, by decide +kernel⟩
theorem c_is_number {f : Addr} {fd : FuncData} (F : FnP K "is_number" s_is_number f fd) (hm : mg "is_number" = some (.ref f)) (B : Blt mg) : Cal P w K mg base 1 "is_number" ["value"] (sp1 K isNum) := by
  refine cal_of F hm sc_is_number (fun _ _ _ _ _ _ _ us hl => match us, hl with | [_], _ => rfl) (fun vs H Q E h => ?_) (fun cdv A outer s H vs Q E hr h => ?_)
  · obtain ⟨_, _, _, rfl, _⟩ := h
    rfl
  · obtain ⟨G, v, d, rfl, eG, hv, hd, q⟩ := h
    have nd := sc_is_number.nd
    refine ⟨_, [some _], ((pss_one (ps_ret (pe_and (pe_callB (call_isiQ (K := K) rfl) (by rfl) B.isinstance_ bo_isinstance (pa_cons (pv 0) (pa_cons (pe_bty (by rfl) B.int_ bo_int) pa_nil))) (pe_and (pe_not (pe_callB (call_isiQ (K := K) rfl) (by rfl) B.isinstance_ bo_isinstance (pa_cons (pv 0) (pa_cons (pe_bty (by rfl) B.bool_ bo_bool) pa_nil)))) (pe_one (pe_cmpR op_ge (pv 0) pe_int (nomark _)))))))), rfl, ?_⟩
    walk_at "q"
    cases d with
    | int i => cases hv; walk_at "q"; exact q _ (by walk_at "ex")
    | dict _ => exact (rp_nodict hv).elim
    | _ => cases hv; walk_at "q"; exact q _ (by walk_at "ex")
abbrev s_is_below : Stmt := topS 6
abbrev N_is_below : List Str := ["value", "end"]
theorem sc_is_below : FnScope N_is_below ["value", "end"] (defScope s_is_below) := ⟨rfl, rfl, rfl, by decide +kernel, rfl, by decide +kernel, by decide +kernel⟩
theorem c_is_below {f : Addr} {fd : FuncData} (F : FnP K "is_below" s_is_below f fd) (hm : mg "is_below" = some (.ref f)) (C_is_number : Cal P w K mg base 1 "is_number" ["value"] (sp1 K isNum)) : Cal P w K mg base 2 "is_below" ["value", "end"] (sp2 K isBelow) := by
  refine cal_of F hm sc_is_below (fun _ _ _ _ _ _ _ us hl => match us, hl with | [_, _], _ => rfl) (fun vs H Q E h => ?_) (fun cdv A outer s H vs Q E hr h => ?_)
  · obtain ⟨_, _, _, _, rfl, _⟩ := h
    rfl
  · obtain ⟨G, v, n, d, rfl, eG, hv, hd, q⟩ := h
    have nd := sc_is_below.nd
    refine ⟨_, [some _, some _], ((pss_one (ps_ret (pe_and (pe_callC C_is_number (hr.mono (by omega)) (by rfl) (pa_cons (pv 0) pa_nil)) (pe_one (pe_cmpR op_lt (pv 0) (pv 1) (nomark _))))))), rfl, ?_⟩
    walk_at "q"
    refine ⟨G, v, d, rfl, eG, hv, hd, fun H1 e1 => ?_⟩
    walk_at "q"
    cases d with
    | int i =>
      cases hv
      refine q_ifb (fun h => ?_) (fun h => ?_)
      · walk_at "q"
        exact q_bt' (by show (decide (0 ≤ i) && decide (i < n)) = _; rw [show decide (0 ≤ i) = true from h, Bool.true_and]) (q _ (by walk_at "ex"))
      · exact q_bt' (by show (decide (0 ≤ i) && decide (i < n)) = _; rw [show decide (0 ≤ i) = false from h, Bool.false_and]) (q _ (by walk_at "ex"))
    | dict _ => exact (rp_nodict hv).elim
    | _ => walk_at "q"; exact q _ (by walk_at "ex")
abbrev s_is_sequence : Stmt := topS 7
abbrev N_is_sequence : List Str := ["value"]
theorem sc_is_sequence : FnScope N_is_sequence ["value"] (defScope s_is_sequence) := ⟨rfl, rfl, rfl, by decide +kernel, rfl, by decide +kernel, by decide +kernel⟩
theorem c_is_sequence {f : Addr} {fd : FuncData} (F : FnP K "is_sequence" s_is_sequence f fd) (hm : mg "is_sequence" = some (.ref f)) (B : Blt mg) : Cal P w K mg base 1 "is_sequence" ["value"] (sp1 K dSeq) := by
  refine cal_of F hm sc_is_sequence (fun _ _ _ _ _ _ _ us hl => match us, hl with | [_], _ => rfl) (fun vs H Q E h => ?_) (fun cdv A outer s H vs Q E hr h => ?_)
  · obtain ⟨_, _, _, rfl, _⟩ := h
    rfl
  · obtain ⟨G, v, d, rfl, eG, hv, hd, q⟩ := h
    have nd := sc_is_sequence.nd
    refine ⟨_, [some _], ((pss_one (ps_ret (pe_callB (call_isiTQ (K := K) rfl) (by rfl) B.isinstance_ bo_isinstance (pa_cons (pv 0) (pa_cons (pe_tup (pa_cons (pe_bty (by rfl) B.list_ bo_list) (pa_cons (pe_bty (by rfl) B.tuple_ bo_tuple) pa_nil))) pa_nil)))))), rfl, ?_⟩
    walk_at "q"
    exact q _ (by walk_at "ex")
abbrev s_is_row : Stmt := topS 8
abbrev N_is_row : List Str := ["value", "many"]
theorem sc_is_row : FnScope N_is_row ["value", "many"] (defScope s_is_row) := ⟨rfl, rfl, rfl, by decide +kernel, rfl, by decide +kernel, by decide +kernel⟩
theorem c_is_row {f : Addr} {fd : FuncData} (F : FnP K "is_row" s_is_row f fd) (hm : mg "is_row" = some (.ref f)) (B : Blt mg) (C_is_sequence : Cal P w K mg base 1 "is_sequence" ["value"] (sp1 K dSeq)) : Cal P w K mg base 2 "is_row" ["value", "many"] (sp2 K isRow) := by
  refine cal_of F hm sc_is_row (fun _ _ _ _ _ _ _ us hl => match us, hl with | [_, _], _ => rfl) (fun vs H Q E h => ?_) (fun cdv A outer s H vs Q E hr h => ?_)
  · obtain ⟨_, _, _, _, rfl, _⟩ := h
    rfl
  · obtain ⟨G, v, n, d, rfl, eG, hv, hd, q⟩ := h
    have nd := sc_is_row.nd
    refine ⟨_, [some _, some _], ((pss_one (ps_ret (pe_and (pe_callC C_is_sequence (hr.mono (by omega)) (by rfl) (pa_cons (pv 0) pa_nil)) (pe_one (pe_cmpR (op_eqK (K := K) rfl (hu64 hr)) (pe_callB (call_lenK (K := K) rfl) (by rfl) B.len_ bo_len (pa_cons (pv 0) pa_nil)) (pv 1) (nomark _))))))), rfl, ?_⟩
    walk_at "q"
    refine ⟨G, v, d, rfl, eG, hv, hd, fun H1 e1 => ?_⟩
    walk_at "q"
    cases d with
    | list ds => walk_at "q"; exact q _ (by walk_at "ex")
    | tuple ds => walk_at "q"; exact q _ (by walk_at "ex")
    | _ => walk_at "q"; exact q _ (by walk_at "ex")
end
end Cw

set_option maxHeartbeats 4000000
namespace Cw
open PySem PySem.Spec PyProof.Rows L2
section
variable {P : Program} {w : World} {K : PySem.W.Frag} {mg : Str → Option Value} {base : Heap}
abbrev s_is_name : Stmt := topS 21
abbrev N_is_name : List Str := ["value", "letter"]
theorem sc_is_name : FnScope N_is_name ["value"] (defScope s_is_name) := ⟨rfl, rfl, rfl, by decide +kernel, rfl, by decide +kernel, by decide +kernel⟩
theorem c_is_name {f : Addr} {fd : FuncData} (F : FnP K "is_name" s_is_name f fd) (hm : mg "is_name" = some (.ref f)) (B : Blt mg) (cs : Cst K mg) : Cal P w K mg base 1 "is_name" ["value"] (sp1 K isName) := by
  refine cal_of F hm sc_is_name (fun _ _ _ _ _ _ _ us hl => match us, hl with | [_], _ => rfl) (fun vs H Q E h => ?_) (fun cdv A outer s H vs Q E hr h => ?_)
  · obtain ⟨_, _, _, rfl, _⟩ := h
    rfl
  · obtain ⟨G, v, d, rfl, eG, hv, hd, q⟩ := h
    have nd := sc_is_name.nd
    refine ⟨_, [some _, none], ((pss_one (ps_ret (pe_and (pe_callB (call_isiQ (K := K) rfl) (by rfl) B.isinstance_ bo_isinstance (pa_cons (pv 0) (pa_cons (pe_bty (by rfl) B.str_ bo_str) pa_nil))) (pe_and (pe_chain op_le op_le pe_int (pe_callB (call_lenK (K := K) rfl) (by rfl) B.len_ bo_len (pa_cons (pv 0) pa_nil)) (pe_gint (by rfl) cs.LONGEST_NAME)) (pe_one (pe_callB (cr_all rfl) (by rfl) B.all_ bo_all (pa_cons (pe_lc (own := [("letter", 1)]) rfl nd (pi_seqK (K := K) rfl (pv 0)) (blkOk_by (N := N_is_name) (sc := defScope s_is_name) (by decide +kernel)) (fun _ _ _ _ _ => (pg_name (i := 1) nd rfl (by first | exact Or.inl rfl | exact Or.inr rfl))) (fun _ _ _ _ _ => pts_nil) (fun _ _ _ _ _ => (pe_cmpR (op_inB (K := K) rfl (hu65 hr)) (pv 1) (pe_gstr (by rfl) cs.LETTERS) (by with_unfolding_all rfl)))) pa_nil)))))))), rfl, ?_⟩
    cases d with
    | str z =>
      cases hv
      walk_at "q"
      have e0 : isName (.str z) = (decide (1 ≤ z.length) && decide (z.length ≤ 6) && z.cps.toList.all isLetter) := rfl
      refine q_ifd (fun h1 => ?_) (fun h1 => ?_)
      · walk_at "q"
        refine q_ifd (fun h2 => ?_) (fun h2 => ?_)
        · walk_at "q"
          refine q_lcS rfl eG (by omega) (R := fun i y _ => y = V.bl (optB isLetter z.cps.toList[i]?)) (fun _ _ _ _ _ h => h) (fun i c G' H' hc gr C N hC => ?_) (fun D ys G' H' gr hD _ _ hl hy => ?_)
          · have w1 := gr.w
            walk_at "q"
            refine ⟨rfl, ?_⟩
            walk_at "q"
            refine Cw.q_inS ?_
            refine hC _ G' _ (by walk_at "gro") ?_
            rw [Array.getElem?_toList, hc] <;> rfl
          · have k1 := gr.ex
            walk_at "q"
            rw [bls_of (G' := G') hl hy] at hD
            refine q_all hD ?_
            have hz : z.length = z.cps.toList.length := by rw [Array.length_toList] <;> rfl
            refine q_bt' ?_ (q _ (by walk_at "ex"))
            rw [e0, decide_eq_true (by omega), decide_eq_true (by omega), hz]
            exact (range_all isLetter z.cps.toList).symm
        · walk_at "q"
          exact q_bt' (by rw [e0, decide_eq_true (by omega), decide_eq_false (by omega)] <;> rfl) (q _ (by walk_at "ex"))
      · walk_at "q"
        exact q_bt' (by rw [e0, decide_eq_false (by omega)] <;> rfl) (q _ (by walk_at "ex"))
    | dict _ => exact (rp_nodict hv).elim
    | _ => walk_at "q"; exact q _ (by walk_at "ex")
abbrev s_are_unlike : Stmt := topS 22
abbrev N_are_unlike : List Str := ["names"]
theorem sc_are_unlike : FnScope N_are_unlike ["names"] (defScope s_are_unlike) := ⟨rfl, rfl, rfl, by decide +kernel, rfl, by decide +kernel, by decide +kernel⟩
theorem c_are_unlike {f : Addr} {fd : FuncData} (F : FnP K "are_unlike" s_are_unlike f fd) (hm : mg "are_unlike" = some (.ref f)) (B : Blt mg) : Cal P w K mg base 1 "are_unlike" ["names"] (sp_unlike K) := by
  refine cal_of F hm sc_are_unlike (fun _ _ _ _ _ _ _ us hl => match us, hl with | [_], _ => rfl) (fun vs H Q E h => ?_) (fun cdv A outer s H vs Q E hr h => ?_)
  · obtain ⟨_, _, rfl, _⟩ := h
    rfl
  · obtain ⟨l, ys, rfl, hl, hn, q⟩ := h
    have nd := sc_are_unlike.nd
    refine ⟨_, [some _], ((pss_one (ps_ret (pe_cmpR (op_eqK (K := K) rfl (hu64 hr)) (pe_lenSetA (K := K) rfl rfl (by rfl) B.len_ (by rfl) B.set_ (pv 0)) (pe_callB (call_lenK (K := K) rfl) (by rfl) B.len_ bo_len (pa_cons (pv 0) pa_nil)) (nomark _))))), rfl, ?_⟩
    walk_at "q"
    refine ⟨l, ys, rfl, .inl (.inl hl), hn, ?_⟩
    walk_at "q"
    refine q_lenC (.inl (.inl hl)) ?_
    rw [List.length_map]
    walk_at "q"
    refine q_bt' ?_ q
    by_cases z : ys.Nodup
    · rw [decide_eq_true z, decide_eq_true (show ((dd ys).length : Int) = (ys.length : Int) from congrArg Int.ofNat ((dd_nodup ys).mpr z))]
    · rw [decide_eq_false z, decide_eq_false (fun y : ((dd ys).length : Int) = (ys.length : Int) => z ((dd_nodup ys).mp (Int.ofNat.inj y)))]
abbrev s_is_process : Stmt := topS 23
abbrev N_is_process : List Str := ["row"]
theorem sc_is_process : FnScope N_is_process ["row"] (defScope s_is_process) := ⟨rfl, rfl, rfl, by decide +kernel, rfl, by decide +kernel, by decide +kernel⟩
theorem c_is_process {f : Addr} {fd : FuncData} (F : FnP K "is_process" s_is_process f fd) (hm : mg "is_process" = some (.ref f)) (B : Blt mg) (cs : Cst K mg) (C_is_row : Cal P w K mg base 2 "is_row" ["value", "many"] (sp2 K isRow)) (C_is_name : Cal P w K mg base 1 "is_name" ["value"] (sp1 K isName))
    (C_is_below : Cal P w K mg base 2 "is_below" ["value", "end"] (sp2 K isBelow)) : Cal P w K mg base 3 "is_process" ["row"] (sp1 K isProcess) := by
  refine cal_of F hm sc_is_process (fun _ _ _ _ _ _ _ us hl => match us, hl with | [_], _ => rfl) (fun vs H Q E h => ?_) (fun cdv A outer s H vs Q E hr h => ?_)
  · obtain ⟨_, _, _, rfl, _⟩ := h
    rfl
  · obtain ⟨G, v, d, rfl, eG, hv, hd, q⟩ := h
    have nd := sc_is_process.nd
    refine ⟨_, [some _], ((pss_one (ps_ret (pe_and (pe_callC C_is_row (hr.mono (by omega)) (by rfl) (pa_cons (pv 0) (pa_cons pe_int pa_nil))) (pe_and (pe_callC C_is_name (hr.mono (by omega)) (by rfl) (pa_cons (pe_ix (ix_seqK (K := K) rfl) (pv 0) pe_int (fun _ _ => rfl)) pa_nil)) (pe_and (pe_callC C_is_below (hr.mono (by omega)) (by rfl) (pa_cons (pe_ix (ix_seqK (K := K) rfl) (pv 0) pe_int (fun _ _ => rfl)) (pa_cons (pe_op (op_addK (K := K) rfl) (pe_gint (by rfl) cs.MOST_STATES) pe_int) pa_nil))) (pe_one (pe_cmpR op_gt (pe_ix (ix_seqK (K := K) rfl) (pv 0) pe_int (fun _ _ => rfl)) pe_int (nomark _))))))))), rfl, ?_⟩
    walk_at "q"
    refine ⟨G, v, 2, d, rfl, eG, hv, hd, fun H1 e1 => ?_⟩
    walk_at "q"
    refine q_ifb (fun h => ?_) (fun h => ?_)
    · obtain ⟨a, b, hs⟩ := row2 h
      have ha := shp_mem hs hd a (by simp)
      have hb := shp_mem hs hd b (by simp)
      have ev := isProcess_eq hs
      walk_at "q"
      refine q_ixRS hv hs (by walk_at "ex") rfl (fun u hu => ?_)
      walk_at "q"
      refine ⟨G, u, a, rfl, by walk_at "ex", hu, ha, fun H2 e2 => ?_⟩
      walk_at "q"
      refine q_ifb (fun h1 => ?_) (fun h1 => ?_)
      · walk_at "q"
        refine q_ixRS hv hs (by walk_at "ex") rfl (fun u' hu' => ?_)
        walk_at "q"
        refine ⟨G, u', 9, b, rfl, by walk_at "ex", hu', hb, fun H3 e3 => ?_⟩
        walk_at "q"
        refine q_ifb (fun h2 => ?_) (fun h2 => ?_)
        · obtain ⟨i, rfl, h0, h9⟩ := below_int h2
          cases hu'
          walk_at "q"
          refine q_ixRS hv hs (by walk_at "ex") rfl (fun u2 hu2 => ?_)
          cases hu2
          walk_at "q"
          exact q_bt' (by rw [ev, h1, h2] <;> rfl) (q _ (by walk_at "ex"))
        · walk_at "q"
          exact q_bt' (by rw [ev, h1, h2] <;> rfl) (q _ (by walk_at "ex"))
      · walk_at "q"
        exact q_bt' (by rw [ev, h1] <;> rfl) (q _ (by walk_at "ex"))
    · walk_at "q"
      exact q_bt' (by rw [isProcess, h] <;> rfl) (q _ (by walk_at "ex"))
abbrev s_are_processes : Stmt := topS 24
abbrev N_are_processes : List Str := ["rows", "row"]
theorem sc_are_processes : FnScope N_are_processes ["rows"] (defScope s_are_processes) := ⟨rfl, rfl, rfl, by decide +kernel, rfl, by decide +kernel, by decide +kernel⟩
theorem c_are_processes {f : Addr} {fd : FuncData} (F : FnP K "are_processes" s_are_processes f fd) (hm : mg "are_processes" = some (.ref f)) (B : Blt mg) (cs : Cst K mg) (C_is_sequence : Cal P w K mg base 1 "is_sequence" ["value"] (sp1 K dSeq)) (C_is_process : Cal P w K mg base 3 "is_process" ["row"] (sp1 K isProcess))
    (C_are_unlike : Cal P w K mg base 1 "are_unlike" ["names"] (sp_unlike K)) : Cal P w K mg base 4 "are_processes" ["rows"] (sp1 K areProcs) := by
  refine cal_of F hm sc_are_processes (fun _ _ _ _ _ _ _ us hl => match us, hl with | [_], _ => rfl) (fun vs H Q E h => ?_) (fun cdv A outer s H vs Q E hr h => ?_)
  · obtain ⟨_, _, _, rfl, _⟩ := h
    rfl
  · obtain ⟨G, v, d, rfl, eG, hv, hd, q⟩ := h
    have nd := sc_are_processes.nd
    refine ⟨_, [some _, none], ((pss_one (ps_ret (pe_and (pe_callC C_is_sequence (hr.mono (by omega)) (by rfl) (pa_cons (pv 0) pa_nil)) (pe_and (pe_chain op_le op_le pe_int (pe_callB (call_lenK (K := K) rfl) (by rfl) B.len_ bo_len (pa_cons (pv 0) pa_nil)) (pe_gint (by rfl) cs.MOST_PROCESSES)) (pe_and (pe_callB (cr_all rfl) (by rfl) B.all_ bo_all (pa_cons (pe_lc (own := [("row", 1)]) rfl nd (pi_seqK (K := K) rfl (pv 0)) (blkOk_by (N := N_are_processes) (sc := defScope s_are_processes) (by decide +kernel)) (fun _ _ _ _ _ => (pg_name (i := 1) nd rfl (by first | exact Or.inl rfl | exact Or.inr rfl))) (fun _ _ _ _ _ => pts_nil) (fun _ _ _ _ _ => (pe_callC C_is_process (hr.mono (by omega)) (by rfl) (pa_cons (pv 1) pa_nil)))) pa_nil)) (pe_one (pe_callC C_are_unlike (hr.mono (by omega)) (by rfl) (pa_cons (pe_lc (own := [("row", 1)]) rfl nd (pi_seqK (K := K) rfl (pv 0)) (blkOk_by (N := N_are_processes) (sc := defScope s_are_processes) (by decide +kernel)) (fun _ _ _ _ _ => (pg_name (i := 1) nd rfl (by first | exact Or.inl rfl | exact Or.inr rfl))) (fun _ _ _ _ _ => pts_nil) (fun _ _ _ _ _ => (pe_ix (ix_seqK (K := K) rfl) (pv 1) pe_int (fun _ _ => rfl)))) pa_nil))))))))), rfl, ?_⟩
    walk_at "q"
    refine ⟨G, v, d, rfl, eG, hv, hd, fun H1 e1 => ?_⟩
    walk_at "q"
    refine q_ifb (fun h => ?_) (fun h => ?_)
    · obtain ⟨ds, hs⟩ := seq_of h
      have ev : areProcs d = (decide (1 ≤ ds.length) && decide (ds.length ≤ 5) && (ds.all isProcess && unlike ds)) := by
        unfold areProcs
        rw [hs.items]
      walk_at "q"
      refine q_lenRS hv hs (by walk_at "ex") ?_
      walk_at "q"
      refine q_ifd (fun h1 => ?_) (fun h1 => ?_)
      · walk_at "q"
        refine q_ifd (fun h2 => ?_) (fun h2 => ?_)
        · walk_at "q"
          refine q_lcV rfl hv hs (by walk_at "ex") (by omega) (R := fun i y _ => y = V.bl (optB isProcess ds[i]?)) (fun _ _ _ _ _ h => h) (fun i hi u G' H' gr ru C N hC => ?_) (fun D ys G' H' gr hD _ _ hl hy => ?_)
          · have w1 := gr.w
            walk_at "q"
            refine ⟨rfl, ?_⟩
            walk_at "q"
            refine ⟨G', u, _, rfl, by walk_at "ex", ru, shp_mem hs hd _ (List.getElem_mem hi), fun H2 e2 => ?_⟩
            exact hC _ G' _ (by walk_at "gro") (by show _ = V.bl (optB isProcess ds[i]?); rw [List.getElem?_eq_getElem hi] <;> rfl)
          · have k1 := gr.ex
            walk_at "q"
            rw [bls_of (G' := G') hl hy] at hD
            refine q_all hD ?_
            rw [range_all isProcess ds]
            walk_at "q"
            refine q_ifb (fun h3 => ?_) (fun h3 => ?_)
            · have h3' := List.all_eq_true.mp h3
              walk_at "q"
              refine q_lcV rfl hv hs (by walk_at "ex") (by omega) (R := fun i y _ => y = V.str (optS (fun c => strOf (atD c 0)) ds[i]?)) (fun _ _ _ _ _ h => h) (fun i hi u G2 H2 gr2 ru C N hC => ?_) (fun D2 ys2 G2 H2 gr2 hD2 _ _ hl2 hy2 => ?_)
              · have w2 := gr2.w
                have hp := h3' _ (List.getElem_mem hi)
                obtain ⟨a, b, hsi⟩ := row2 (bA hp).1
                rw [isProcess_eq hsi] at hp
                obtain ⟨z, rfl⟩ := name_str (bA hp).1
                walk_at "q"
                refine ⟨rfl, ?_⟩
                walk_at "q"
                refine q_ixRS ru hsi (by walk_at "ex") rfl (fun u' hu' => ?_)
                cases hu'
                exact hC _ G2 _ (by walk_at "gro") (by show _ = V.str (optS (fun c => strOf (atD c 0)) ds[i]?); rw [List.getElem?_eq_getElem hi]; show _ = V.str (strOf (atD ds[i] 0)); rw [Seq.at hsi] <;> rfl)
              · have k2 := gr2.ex
                walk_at "q"
                have ey : ys2 = (ds.map fun c => strOf (atD c 0)).map V.str := strs_of (G' := G2) (f := fun c => strOf (atD c 0)) hl2 hy2
                rw [ey] at hD2
                refine ⟨D2, _, rfl, hD2, by simp; omega, ?_⟩
                exact q_bt' (by rw [ev, h3, decide_eq_true (by omega), decide_eq_true (by omega)] <;> rfl) (q _ (by walk_at "ex"))
            · walk_at "q"
              exact q_bt' (by rw [ev, h3, decide_eq_true (by omega), decide_eq_true (by omega)] <;> rfl) (q _ (by walk_at "ex"))
        · walk_at "q"
          exact q_bt' (by rw [ev, decide_eq_true (by omega), decide_eq_false (by omega)] <;> rfl) (q _ (by walk_at "ex"))
      · walk_at "q"
        exact q_bt' (by rw [ev, decide_eq_false (by omega)] <;> rfl) (q _ (by walk_at "ex"))
    · walk_at "q"
      exact q_bt' (by unfold areProcs; rw [seq_no h]) (q _ (by walk_at "ex"))
abbrev s_is_channel : Stmt := topS 25
abbrev N_is_channel : List Str := ["processes", "row", "many"]
theorem sc_is_channel : FnScope N_is_channel ["processes", "row"] (defScope s_is_channel) := ⟨rfl, rfl, rfl, by decide +kernel, rfl, by decide +kernel, by decide +kernel⟩
theorem c_is_channel {f : Addr} {fd : FuncData} (F : FnP K "is_channel" s_is_channel f fd) (hm : mg "is_channel" = some (.ref f)) (B : Blt mg) (cs : Cst K mg) (C_is_row : Cal P w K mg base 2 "is_row" ["value", "many"] (sp2 K isRow)) (C_is_name : Cal P w K mg base 1 "is_name" ["value"] (sp1 K isName))
    (C_is_below : Cal P w K mg base 2 "is_below" ["value", "end"] (sp2 K isBelow)) : Cal P w K mg base 3 "is_channel" ["processes", "row"] (spN K fun ps => isChan ps.length) := by
  refine cal_of F hm sc_is_channel (fun _ _ _ _ _ _ _ us hl => match us, hl with | [_, _], _ => rfl) (fun vs H Q E h => ?_) (fun cdv A outer s H vs Q E hr h => ?_)
  · obtain ⟨_, _, _, _, _, _, rfl, _⟩ := h
    rfl
  · obtain ⟨G, vp, v, dp, d, ps, rfl, eG, hvp, hps, hdp, hv, hd, q⟩ := h
    have nd := sc_is_channel.nd
    replace q : ∀ H', Ex H H' → Q (.bl (isChan ps.length d)) H' := q
    refine ⟨_, [some _, some _, none], ((pss_cons (ps_set (i := 2) nd rfl (Or.inl rfl) (pe_callB (call_lenK (K := K) rfl) (by rfl) B.len_ bo_len (pa_cons (pv 0) pa_nil)))
      (pss_one (ps_ret (pe_and (pe_callC C_is_row (hr.mono (by omega)) (by rfl) (pa_cons (pv 1) (pa_cons pe_int pa_nil))) (pe_and (pe_callC C_is_name (hr.mono (by omega)) (by rfl) (pa_cons (pe_ix (ix_seqK (K := K) rfl) (pv 1) pe_int (fun _ _ => rfl)) pa_nil)) (pe_and (pe_callC C_is_below (hr.mono (by omega)) (by rfl) (pa_cons (pe_ix (ix_seqK (K := K) rfl) (pv 1) pe_int (fun _ _ => rfl)) (pa_cons (pv 2) pa_nil))) (pe_and (pe_callC C_is_below (hr.mono (by omega)) (by rfl) (pa_cons (pe_ix (ix_seqK (K := K) rfl) (pv 1) pe_int (fun _ _ => rfl)) (pa_cons (pv 2) pa_nil))) (pe_and (pe_cmpR (op_neK (K := K) rfl (hu64 hr)) (pe_ix (ix_seqK (K := K) rfl) (pv 1) pe_int (fun _ _ => rfl)) (pe_ix (ix_seqK (K := K) rfl) (pv 1) pe_int (fun _ _ => rfl)) (nomark _)) (pe_one (pe_cmpR (op_inB (K := K) rfl (hu65 hr)) (pe_ix (ix_seqK (K := K) rfl) (pv 1) pe_int (fun _ _ => rfl)) (pe_gref (by rfl) cs.KINDS) (by with_unfolding_all rfl)))))))))))), rfl, ?_⟩
    walk_at "q"
    refine q_lenRS hvp hps (by walk_at "ex") ?_
    walk_at "q"
    refine ⟨G, v, 4, d, rfl, eG, hv, hd, fun H1 e1 => ?_⟩
    walk_at "q"
    refine q_ifb (fun h => ?_) (fun h => ?_)
    · obtain ⟨a, b, c, e, hs⟩ := row4 h
      have ha := shp_mem hs hd a (by simp)
      have hb := shp_mem hs hd b (by simp)
      have hc := shp_mem hs hd c (by simp)
      have he := shp_mem hs hd e (by simp)
      have ev : isChan ps.length d = _ := isChan_eq hs
      walk_at "q"
      refine q_ixRS hv hs (by walk_at "ex") rfl (fun u hu => ?_)
      walk_at "q"
      refine ⟨G, u, a, rfl, by walk_at "ex", hu, ha, fun H2 e2 => ?_⟩
      walk_at "q"
      refine q_ifb (fun h1 => ?_) (fun h1 => ?_)
      · walk_at "q"
        refine q_ixRS hv hs (by walk_at "ex") rfl (fun u1 hu1 => ?_)
        walk_at "q"
        refine ⟨G, u1, _, b, rfl, by walk_at "ex", hu1, hb, fun H3 e3 => ?_⟩
        walk_at "q"
        refine q_ifb (fun h2 => ?_) (fun h2 => ?_)
        · walk_at "q"
          refine q_ixRS hv hs (by walk_at "ex") rfl (fun u2 hu2 => ?_)
          walk_at "q"
          refine ⟨G, u2, _, c, rfl, by walk_at "ex", hu2, hc, fun H4 e4 => ?_⟩
          walk_at "q"
          refine q_ifb (fun h3 => ?_) (fun h3 => ?_)
          · walk_at "q"
            refine q_ixRS hv hs (by walk_at "ex") rfl (fun u3 hu3 => ?_)
            walk_at "q"
            refine q_ixRS hv hs (by walk_at "ex") rfl (fun u4 hu4 => ?_)
            refine q_neR hu3 hu4 (by walk_at "ex") hb hc ?_
            walk_at "q"
            refine q_ifb (fun h4 => ?_) (fun h4 => ?_)
            · walk_at "q"
              refine q_ixRS hv hs (by walk_at "ex") rfl (fun u5 hu5 => ?_)
              walk_at "q"
              refine q_inT hu5 (cs.kinds G) (by walk_at "ex") he shp_kinds ?_
              exact q_bt' (by rw [ev, h1, h2, h3, h4] <;> rfl) (q _ (by walk_at "ex"))
            · walk_at "q"
              exact q_bt' (by rw [ev, h1, h2, h3, h4] <;> rfl) (q _ (by walk_at "ex"))
          · walk_at "q"
            exact q_bt' (by rw [ev, h1, h2, h3] <;> rfl) (q _ (by walk_at "ex"))
        · walk_at "q"
          exact q_bt' (by rw [ev, h1, h2] <;> rfl) (q _ (by walk_at "ex"))
      · walk_at "q"
        exact q_bt' (by rw [ev, h1] <;> rfl) (q _ (by walk_at "ex"))
    · walk_at "q"
      exact q_bt' (by rw [isChan, h] <;> rfl) (q _ (by walk_at "ex"))
abbrev s_are_channels : Stmt := topS 26
abbrev N_are_channels : List Str := ["processes", "rows", "row"]
theorem sc_are_channels : FnScope N_are_channels ["processes", "rows"] (defScope s_are_channels) := ⟨rfl, rfl, rfl, by decide +kernel, rfl, by decide +kernel, by decide +kernel⟩
theorem c_are_channels {f : Addr} {fd : FuncData} (F : FnP K "are_channels" s_are_channels f fd) (hm : mg "are_channels" = some (.ref f)) (B : Blt mg) (cs : Cst K mg) (C_is_sequence : Cal P w K mg base 1 "is_sequence" ["value"] (sp1 K dSeq)) (C_is_channel : Cal P w K mg base 3 "is_channel" ["processes", "row"] (spN K fun ps => isChan ps.length))
    (C_are_unlike : Cal P w K mg base 1 "are_unlike" ["names"] (sp_unlike K)) : Cal P w K mg base 4 "are_channels" ["processes", "rows"] (spN K fun ps => areChans ps.length) := by
  refine cal_of F hm sc_are_channels (fun _ _ _ _ _ _ _ us hl => match us, hl with | [_, _], _ => rfl) (fun vs H Q E h => ?_) (fun cdv A outer s H vs Q E hr h => ?_)
  · obtain ⟨_, _, _, _, _, _, rfl, _⟩ := h
    rfl
  · obtain ⟨G, vp, v, dp, d, ps, rfl, eG, hvp, hps, hdp, hv, hd, q⟩ := h
    have nd := sc_are_channels.nd
    replace q : ∀ H', Ex H H' → Q (.bl (areChans ps.length d)) H' := q
    refine ⟨_, [some _, some _, none], ((pss_one (ps_ret (pe_and (pe_callC C_is_sequence (hr.mono (by omega)) (by rfl) (pa_cons (pv 1) pa_nil)) (pe_and (pe_cmpR op_le (pe_callB (call_lenK (K := K) rfl) (by rfl) B.len_ bo_len (pa_cons (pv 1) pa_nil)) (pe_gint (by rfl) cs.MOST_CHANNELS) (nomark _)) (pe_and (pe_callB (cr_all rfl) (by rfl) B.all_ bo_all (pa_cons (pe_lc (own := [("row", 2)]) rfl nd (pi_seqK (K := K) rfl (pv 1)) (blkOk_by (N := N_are_channels) (sc := defScope s_are_channels) (by decide +kernel)) (fun _ _ _ _ _ => (pg_name (i := 2) nd rfl (by first | exact Or.inl rfl | exact Or.inr rfl))) (fun _ _ _ _ _ => pts_nil) (fun _ _ _ _ _ => (pe_callC C_is_channel (hr.mono (by omega)) (by rfl) (pa_cons (pv 0) (pa_cons (pv 2) pa_nil))))) pa_nil)) (pe_one (pe_callC C_are_unlike (hr.mono (by omega)) (by rfl) (pa_cons (pe_lc (own := [("row", 2)]) rfl nd (pi_seqK (K := K) rfl (pv 1)) (blkOk_by (N := N_are_channels) (sc := defScope s_are_channels) (by decide +kernel)) (fun _ _ _ _ _ => (pg_name (i := 2) nd rfl (by first | exact Or.inl rfl | exact Or.inr rfl))) (fun _ _ _ _ _ => pts_nil) (fun _ _ _ _ _ => (pe_ix (ix_seqK (K := K) rfl) (pv 2) pe_int (fun _ _ => rfl)))) pa_nil))))))))), rfl, ?_⟩
    walk_at "q"
    refine ⟨G, v, d, rfl, eG, hv, hd, fun H1 e1 => ?_⟩
    walk_at "q"
    refine q_ifb (fun h => ?_) (fun h => ?_)
    · obtain ⟨ds, hs⟩ := seq_of h
      have ev : areChans ps.length d = (decide (ds.length ≤ 8) && (ds.all (isChan ps.length) && unlike ds)) := by
        unfold areChans
        rw [hs.items]
      walk_at "q"
      refine q_lenRS hv hs (by walk_at "ex") ?_
      walk_at "q"
      refine q_ifd (fun h2 => ?_) (fun h2 => ?_)
      · walk_at "q"
        refine q_lcV rfl hv hs (by walk_at "ex") (by omega) (R := fun i y _ => y = V.bl (optB (isChan ps.length) ds[i]?)) (fun _ _ _ _ _ h => h) (fun i hi u G' H' gr ru C N hC => ?_) (fun D ys G' H' gr hD _ _ hl hy => ?_)
        · have w1 := gr.w
          walk_at "q"
          refine ⟨rfl, ?_⟩
          walk_at "q"
          refine ⟨G', vp, u, dp, _, ps, rfl, by walk_at "ex", hvp.mono gr.g, hps, hdp, ru, shp_mem hs hd _ (List.getElem_mem hi), fun H2 e2 => ?_⟩
          exact hC _ G' _ (by walk_at "gro") (by show _ = V.bl (optB (isChan ps.length) ds[i]?); rw [List.getElem?_eq_getElem hi] <;> rfl)
        · have k1 := gr.ex
          walk_at "q"
          rw [bls_of (G' := G') hl hy] at hD
          refine q_all hD ?_
          rw [range_all (isChan ps.length) ds]
          walk_at "q"
          refine q_ifb (fun h3 => ?_) (fun h3 => ?_)
          · have h3' := List.all_eq_true.mp h3
            walk_at "q"
            refine q_lcV rfl hv hs (by walk_at "ex") (by omega) (R := fun i y _ => y = V.str (optS (fun c => strOf (atD c 0)) ds[i]?)) (fun _ _ _ _ _ h => h) (fun i hi u G2 H2 gr2 ru C N hC => ?_) (fun D2 ys2 G2 H2 gr2 hD2 _ _ hl2 hy2 => ?_)
            · have w2 := gr2.w
              have hp := h3' _ (List.getElem_mem hi)
              obtain ⟨a, b, c, x, hsi⟩ := row4 (bA hp).1
              rw [isChan_eq hsi] at hp
              obtain ⟨z, rfl⟩ := name_str (bA hp).1
              walk_at "q"
              refine ⟨rfl, ?_⟩
              walk_at "q"
              refine q_ixRS ru hsi (by walk_at "ex") rfl (fun u' hu' => ?_)
              cases hu'
              exact hC _ G2 _ (by walk_at "gro") (by show _ = V.str (optS (fun c => strOf (atD c 0)) ds[i]?); rw [List.getElem?_eq_getElem hi]; show _ = V.str (strOf (atD ds[i] 0)); rw [Seq.at hsi] <;> rfl)
            · have k2 := gr2.ex
              walk_at "q"
              have ey : ys2 = (ds.map fun c => strOf (atD c 0)).map V.str := strs_of (G' := G2) (f := fun c => strOf (atD c 0)) hl2 hy2
              rw [ey] at hD2
              refine ⟨D2, _, rfl, hD2, by simp; omega, ?_⟩
              exact q_bt' (by rw [ev, h3, decide_eq_true (by omega)] <;> rfl) (q _ (by walk_at "ex"))
          · walk_at "q"
            exact q_bt' (by rw [ev, h3, decide_eq_true (by omega)] <;> rfl) (q _ (by walk_at "ex"))
      · walk_at "q"
        exact q_bt' (by rw [ev, decide_eq_false (by omega)] <;> rfl) (q _ (by walk_at "ex"))
    · walk_at "q"
      exact q_bt' (by unfold areChans; rw [seq_no h]) (q _ (by walk_at "ex"))
end
end Cw

set_option maxHeartbeats 4000000
namespace Cw
open PySem PySem.Spec PyProof.Rows L2
section
variable {P : Program} {w : World} {K : PySem.W.Frag} {mg : Str → Option Value} {base : Heap}
abbrev s_is_act : Stmt := topS 27
abbrev N_is_act : List Str := ["channels", "process", "act", "giver", "taker"]
theorem sc_is_act : FnScope N_is_act ["channels", "process", "act"] (defScope s_is_act) := ⟨rfl, rfl, rfl, by decide +kernel, rfl, by decide +kernel, by decide +kernel⟩
theorem c_is_act {f : Addr} {fd : FuncData} (F : FnP K "is_act" s_is_act f fd) (hm : mg "is_act" = some (.ref f)) (B : Blt mg) (cs : Cst K mg) (C_is_row : Cal P w K mg base 2 "is_row" ["value", "many"] (sp2 K isRow)) (C_is_below : Cal P w K mg base 2 "is_below" ["value", "end"] (sp2 K isBelow)) :
    Cal P w K mg base 3 "is_act" ["channels", "process", "act"] (sp_act K) := by
  refine cal_of F hm sc_is_act (fun _ _ _ _ _ _ _ us hl => match us, hl with | [_, _, _], _ => rfl) (fun vs H Q E h => ?_) (fun cdv A outer s H vs Q E hr h => ?_)
  · obtain ⟨_, _, _, _, _, _, _, _, rfl, _⟩ := h
    rfl
  · obtain ⟨G, vc, v, p, dc, d, chs, n, rfl, eG, hvc, hcs, hdc, hall, hv, hd, q⟩ := h
    have nd := sc_is_act.nd
    refine ⟨_, [some _, some _, some _, none, none], ((pss_cons (ps_if (pt_val (pe_callC C_is_row (hr.mono (by omega)) (by rfl) (pa_cons (pv 2) (pa_cons pe_int pa_nil)))) (pss_one (ps_ret (pe_cmpR (op_eqK (K := K) rfl (hu64 hr)) (pe_ix (ix_seqK (K := K) rfl) (pv 2) pe_int (fun _ _ => rfl)) pe_str (nomark _)))) pss_nil)
      (pss_cons (ps_if (PW.pt (pw_or (pt_not (pt_val (pe_callC C_is_row (hr.mono (by omega)) (by rfl) (pa_cons (pv 2) (pa_cons pe_int pa_nil))))) (pw_or (pt_not (pt_val (pe_callC C_is_below (hr.mono (by omega)) (by rfl) (pa_cons (pe_ix (ix_seqK (K := K) rfl) (pv 2) pe_int (fun _ _ => rfl)) (pa_cons (pe_callB (call_lenK (K := K) rfl) (by rfl) B.len_ bo_len (pa_cons (pv 0) pa_nil)) pa_nil))))) (pw_or1 (pt_not (pt_val (pe_callC C_is_below (hr.mono (by omega)) (by rfl) (pa_cons (pe_ix (ix_seqK (K := K) rfl) (pv 2) pe_int (fun _ _ => rfl)) (pa_cons (pe_gint (by rfl) cs.MANY_TOKENS) pa_nil))))))))) (pss_one (ps_ret pe_bl)) pss_nil)
      (pss_cons (ps_asg (pe_slice (sl_anyK (K := K) rfl) (pe_ix (ix_seqK (K := K) rfl) (pv 0) (pe_ix (ix_seqK (K := K) rfl) (pv 2) pe_int (fun _ _ => rfl)) (fun _ _ => rfl)) (po_some pe_int) (po_some pe_int)) (pg_seqK (K := K) (n := 2) rfl rfl (pgs_cons (pg_name (i := 3) nd rfl (by first | exact Or.inl rfl | exact Or.inr rfl)) (pgs_cons (pg_name (i := 4) nd rfl (by first | exact Or.inl rfl | exact Or.inr rfl)) pgs_nil))))
      (pss_one (ps_ret (pe_or (pe_and (pe_cmpR (op_eqK (K := K) rfl (hu64 hr)) (pe_ix (ix_seqK (K := K) rfl) (pv 2) pe_int (fun _ _ => rfl)) pe_str (nomark _)) (pe_one (pe_cmpR (op_eqK (K := K) rfl (hu64 hr)) (pv 1) (pv 3) (nomark _)))) (pe_one (pe_and (pe_cmpR (op_eqK (K := K) rfl (hu64 hr)) (pe_ix (ix_seqK (K := K) rfl) (pv 2) pe_int (fun _ _ => rfl)) pe_str (nomark _)) (pe_one (pe_cmpR (op_eqK (K := K) rfl (hu64 hr)) (pv 1) (pv 4) (nomark _)))))))))))), rfl, ?_⟩
    walk_at "q"
    refine ⟨G, v, 1, d, rfl, eG, hv, hd, fun H1 e1 => ?_⟩
    walk_at "q"
    refine q_ifb (fun h => ?_) (fun h => ?_)
    · obtain ⟨a, hs⟩ := row1 h
      walk_at "q"
      refine q_ixRS hv hs (by walk_at "ex") rfl (fun u hu => ?_)
      walk_at "q"
      refine q_eqR hu (.str _) (by walk_at "ex") (shp_mem hs hd a (by simp)) (shp_word (by decide +kernel)) ?_
      exact q_bt' (by rw [isAct, h, if_pos rfl, Seq.at hs] <;> rfl) (q _ (by walk_at "ex"))
    · walk_at "q"
      refine ⟨G, v, 3, d, rfl, by walk_at "ex", hv, hd, fun H2 e2 => ?_⟩
      walk_at "q"
      refine q_ifb (fun h2 => ?_) (fun h2 => ?_)
      · walk_at "q"
        exact q_bt' (by rw [isAct, h, if_neg Bool.false_ne_true, h2] <;> rfl) (q _ (by walk_at "ex"))
      · have h2' : isRow 3 d = true := by simpa using h2
        obtain ⟨a, b, c, hs⟩ := row3 h2'
        have ha := shp_mem hs hd a (by simp)
        have hb := shp_mem hs hd b (by simp)
        have hc := shp_mem hs hd c (by simp)
        have ea : atD d 0 = a := Seq.at hs 0
        have eb : atD d 1 = b := Seq.at hs 1
        have ec : atD d 2 = c := Seq.at hs 2
        walk_at "q"
        refine q_ixRS hv hs (by walk_at "ex") rfl (fun u hu => ?_)
        walk_at "q"
        refine q_lenRS hvc hcs (by walk_at "ex") ?_
        walk_at "q"
        refine ⟨G, u, _, b, rfl, by walk_at "ex", hu, hb, fun H3 e3 => ?_⟩
        walk_at "q"
        refine q_ifb (fun h3 => ?_) (fun h3 => ?_)
        · walk_at "q"
          exact q_bt' (by rw [isAct, h, if_neg Bool.false_ne_true, h2', eb, h3] <;> rfl) (q _ (by walk_at "ex"))
        · have h3' : isBelow chs.length b = true := by simpa using h3
          walk_at "q"
          refine q_ixRS hv hs (by walk_at "ex") rfl (fun u2 hu2 => ?_)
          walk_at "q"
          refine ⟨G, u2, 10, c, rfl, by walk_at "ex", hu2, hc, fun H4 e4 => ?_⟩
          walk_at "q"
          refine q_ifb (fun h4 => ?_) (fun h4 => ?_)
          · walk_at "q"
            exact q_bt' (by rw [isAct, h, if_neg Bool.false_ne_true, h2', eb, h3', ec, h4] <;> rfl) (q _ (by walk_at "ex"))
          · have h4' : isBelow 10 c = true := by simpa using h4
            obtain ⟨i, rfl, i0, i1⟩ := below_int h3'
            cases hu
            obtain ⟨k, rfl⟩ := Int.eq_ofNat_of_zero_le i0
            have hk : k < chs.length := by omega
            obtain ⟨n1, n2, n3, n4, hch⟩ := row4 (bA (List.all_eq_true.mp hall _ (List.getElem_mem hk))).1
            have hrow := List.all_eq_true.mp hall _ (List.getElem_mem hk)
            rw [isChan_eq hch] at hrow
            obtain ⟨r1, hrow⟩ := bA hrow
            obtain ⟨r2, hrow⟩ := bA hrow
            obtain ⟨r3, hrow⟩ := bA hrow
            obtain ⟨g, rfl, _, _⟩ := below_int r2
            obtain ⟨tk, rfl, _, _⟩ := below_int r3
            have ev : isAct chs (.int p) d = (PyData.eqv a (.str "send") && decide (p = g) || PyData.eqv a (.str "take") && decide (p = tk)) := by
              have e1 : chs.getD k .none = chs[k] := by rw [List.getD_eq_getElem?_getD, List.getElem?_eq_getElem hk] <;> rfl
              have e2 : atD chs[k] 1 = .int g := Seq.at hch 1
              have e3 : atD chs[k] 2 = .int tk := Seq.at hch 2
              rw [isAct, h, if_neg Bool.false_ne_true, h2', eb, h3', ec, h4', if_neg (by decide), ea]
              show (_ && PyData.eqv (.int p) (atD (chs.getD k .none) 1) || _ && PyData.eqv (.int p) (atD (chs.getD k .none) 2)) = _
              rw [e1, e2, e3]
              have e4 : ∀ x y : Int, PyData.eqv (.int x) (.int y) = decide (x = y) := fun x y => by
                rw [PyData.eqv]
                by_cases z : x = y <;> simp [z]
              rw [e4, e4]
            walk_at "q"
            refine q_ixRS hv hs (by walk_at "ex") rfl (fun u3 hu3 => ?_)
            cases hu3
            refine q_ixRS hvc hcs (by walk_at "ex") (atI_at hk) (fun u4 hu4 => ?_)
            walk_at "q"
            refine q_sl13 hu4 hch (by walk_at "ex") (fun G2 H5 t d2 gr rt hd2 => ?_)
            have w1 := gr.w
            have k1 := gr.ex
            have g1 := gr.g
            walk_at "q"
            refine q_gSeq rt hd2 (by walk_at "ex") rfl (fun us hus => ?_)
            obtain ⟨u5, _, rfl, r5, hus⟩ := rps_cons hus
            obtain ⟨u6, _, rfl, r6, hus⟩ := rps_cons hus
            obtain rfl := rps_nil hus
            cases r5
            cases r6
            walk_at "q"
            refine q_ixRS (hv.mono g1) hs (by walk_at "ex") rfl (fun u7 hu7 => ?_)
            walk_at "q"
            refine q_eqR hu7 (.str _) (by walk_at "ex") ha (shp_word (by decide +kernel)) ?_
            walk_at "q"
            refine q_ifb (fun h5 => ?_) (fun h5 => ?_)
            · walk_at "q"
              refine q_ifd (fun h6 => ?_) (fun h6 => ?_)
              · exact q_bt' (by rw [ev, h5, decide_eq_true h6] <;> rfl) (q _ (by walk_at "ex"))
              · walk_at "q"
                refine q_ixRS (hv.mono g1) hs (by walk_at "ex") rfl (fun u8 hu8 => ?_)
                walk_at "q"
                refine q_eqR hu8 (.str _) (by walk_at "ex") ha (shp_word (by decide +kernel)) ?_
                walk_at "q"
                refine q_ifb (fun h7 => ?_) (fun h7 => ?_)
                · walk_at "q"
                  exact q_bt' (by rw [ev, h5, h7, decide_eq_false h6] <;> rfl) (q _ (by walk_at "ex"))
                · walk_at "q"
                  exact q_bt' (by rw [ev, h5, h7, decide_eq_false h6] <;> rfl) (q _ (by walk_at "ex"))
            · walk_at "q"
              refine q_ixRS (hv.mono g1) hs (by walk_at "ex") rfl (fun u8 hu8 => ?_)
              walk_at "q"
              refine q_eqR hu8 (.str _) (by walk_at "ex") ha (shp_word (by decide +kernel)) ?_
              walk_at "q"
              refine q_ifb (fun h7 => ?_) (fun h7 => ?_)
              · walk_at "q"
                exact q_bt' (by rw [ev, h5, h7] <;> rfl) (q _ (by walk_at "ex"))
              · walk_at "q"
                exact q_bt' (by rw [ev, h5, h7] <;> rfl) (q _ (by walk_at "ex"))
abbrev s_is_rule : Stmt := topS 28
abbrev N_is_rule : List Str := ["processes", "channels", "row", "states"]
theorem sc_is_rule : FnScope N_is_rule ["processes", "channels", "row"] (defScope s_is_rule) := ⟨rfl, rfl, rfl, by decide +kernel, rfl, by decide +kernel, by decide +kernel⟩
theorem c_is_rule {f : Addr} {fd : FuncData} (F : FnP K "is_rule" s_is_rule f fd) (hm : mg "is_rule" = some (.ref f)) (B : Blt mg) (C_is_row : Cal P w K mg base 2 "is_row" ["value", "many"] (sp2 K isRow)) (C_is_below : Cal P w K mg base 2 "is_below" ["value", "end"] (sp2 K isBelow))
    (C_is_act : Cal P w K mg base 3 "is_act" ["channels", "process", "act"] (sp_act K)) : Cal P w K mg base 4 "is_rule" ["processes", "channels", "row"] (sp_rule K isRule) := by
  refine cal_of F hm sc_is_rule (fun _ _ _ _ _ _ _ us hl => match us, hl with | [_, _, _], _ => rfl) (fun vs H Q E h => ?_) (fun cdv A outer s H vs Q E hr h => ?_)
  · obtain ⟨_, _, _, _, _, _, _, _, _, _, rfl, _⟩ := h
    rfl
  · obtain ⟨G, vp, vc, v, dp, dc, d, ps, chs, n, rfl, eG, hvp, hps, hdp, hpa, hvc, hcs, hdc, hca, hv, hd, q⟩ := h
    have nd := sc_is_rule.nd
    refine ⟨_, [some _, some _, some _, none], ((pss_cons (ps_if (PW.pt (pw_or (pt_not (pt_val (pe_callC C_is_row (hr.mono (by omega)) (by rfl) (pa_cons (pv 2) (pa_cons pe_int pa_nil))))) (pw_or1 (pt_not (pt_val (pe_callC C_is_below (hr.mono (by omega)) (by rfl) (pa_cons (pe_ix (ix_seqK (K := K) rfl) (pv 2) pe_int (fun _ _ => rfl)) (pa_cons (pe_callB (call_lenK (K := K) rfl) (by rfl) B.len_ bo_len (pa_cons (pv 0) pa_nil)) pa_nil)))))))) (pss_one (ps_ret pe_bl)) pss_nil)
      (pss_cons (ps_set (i := 3) nd rfl (Or.inl rfl) (pe_ix (ix_seqK (K := K) rfl) (pe_ix (ix_seqK (K := K) rfl) (pv 0) (pe_ix (ix_seqK (K := K) rfl) (pv 2) pe_int (fun _ _ => rfl)) (fun _ _ => rfl)) pe_int (fun _ _ => rfl)))
      (pss_one (ps_ret (pe_and (pe_callC C_is_below (hr.mono (by omega)) (by rfl) (pa_cons (pe_ix (ix_seqK (K := K) rfl) (pv 2) pe_int (fun _ _ => rfl)) (pa_cons (pv 3) pa_nil))) (pe_and (pe_callC C_is_act (hr.mono (by omega)) (by rfl) (pa_cons (pv 1) (pa_cons (pe_ix (ix_seqK (K := K) rfl) (pv 2) pe_int (fun _ _ => rfl)) (pa_cons (pe_ix (ix_seqK (K := K) rfl) (pv 2) pe_int (fun _ _ => rfl)) pa_nil)))) (pe_one (pe_callC C_is_below (hr.mono (by omega)) (by rfl) (pa_cons (pe_ix (ix_seqK (K := K) rfl) (pv 2) pe_int (fun _ _ => rfl)) (pa_cons (pv 3) pa_nil))))))))))), rfl, ?_⟩
    walk_at "q"
    refine ⟨G, v, 4, d, rfl, eG, hv, hd, fun H1 e1 => ?_⟩
    walk_at "q"
    refine q_ifb (fun h => ?_) (fun h => ?_)
    · walk_at "q"
      exact q_bt' (by rw [isRule, h] <;> rfl) (q _ (by walk_at "ex"))
    · have h' : isRow 4 d = true := by simpa using h
      obtain ⟨a, b, c, e, hs⟩ := row4 h'
      have ha := shp_mem hs hd a (by simp)
      have hb := shp_mem hs hd b (by simp)
      have hc := shp_mem hs hd c (by simp)
      have he := shp_mem hs hd e (by simp)
      have ea : atD d 0 = a := Seq.at hs 0
      have eb : atD d 1 = b := Seq.at hs 1
      have ec : atD d 2 = c := Seq.at hs 2
      have ee : atD d 3 = e := Seq.at hs 3
      walk_at "q"
      refine q_ixRS hv hs (by walk_at "ex") rfl (fun u hu => ?_)
      walk_at "q"
      refine q_lenRS hvp hps (by walk_at "ex") ?_
      walk_at "q"
      refine ⟨G, u, _, a, rfl, by walk_at "ex", hu, ha, fun H2 e2 => ?_⟩
      walk_at "q"
      refine q_ifb (fun h2 => ?_) (fun h2 => ?_)
      · walk_at "q"
        exact q_bt' (by rw [isRule, h', ea, h2] <;> rfl) (q _ (by walk_at "ex"))
      · have h2' : isBelow ps.length a = true := by simpa using h2
        obtain ⟨i, rfl, i0, i1⟩ := below_int h2'
        cases hu
        obtain ⟨k, rfl⟩ := Int.eq_ofNat_of_zero_le i0
        have hk : k < ps.length := by omega
        have hrow := List.all_eq_true.mp hpa _ (List.getElem_mem hk)
        obtain ⟨n1, n2, hch⟩ := row2 (bA hrow).1
        rw [isProcess_eq hch] at hrow
        obtain ⟨r1, hrow⟩ := bA hrow
        obtain ⟨r2, hrow⟩ := bA hrow
        obtain ⟨st, rfl, _, _⟩ := below_int r2
        have ev : isRule ps chs d = (isBelow st b && (isAct chs (.int k) c && isBelow st e)) := by
          have e1 : ps.getD k .none = ps[k] := by rw [List.getD_eq_getElem?_getD, List.getElem?_eq_getElem hk] <;> rfl
          have e2 : atD ps[k] 1 = .int st := Seq.at hch 1
          have e3 : natD (.int (k : Int)) = k := rfl
          rw [isRule, h', ea, h2', if_neg (by decide), e3, e1, e2, eb, ec, ee]
        walk_at "q"
        refine q_ixRS hv hs (by walk_at "ex") rfl (fun u2 hu2 => ?_)
        cases hu2
        refine q_ixRS hvp hps (by walk_at "ex") (atI_at hk) (fun u3 hu3 => ?_)
        walk_at "q"
        refine q_ixRS hu3 hch (by walk_at "ex") rfl (fun u4 hu4 => ?_)
        cases hu4
        walk_at "q"
        refine q_ixRS hv hs (by walk_at "ex") rfl (fun u5 hu5 => ?_)
        walk_at "q"
        refine ⟨G, u5, st, b, rfl, by walk_at "ex", hu5, hb, fun H3 e3 => ?_⟩
        walk_at "q"
        refine q_ifb (fun h3 => ?_) (fun h3 => ?_)
        · walk_at "q"
          refine q_ixRS hv hs (by walk_at "ex") rfl (fun u6 hu6 => ?_)
          cases hu6
          walk_at "q"
          refine q_ixRS hv hs (by walk_at "ex") rfl (fun u7 hu7 => ?_)
          walk_at "q"
          refine ⟨G, vc, u7, _, dc, c, chs, n, rfl, by walk_at "ex", hvc, hcs, hdc, hca, hu7, hc, fun H4 e4 => ?_⟩
          walk_at "q"
          refine q_ifb (fun h4 => ?_) (fun h4 => ?_)
          · walk_at "q"
            refine q_ixRS hv hs (by walk_at "ex") rfl (fun u8 hu8 => ?_)
            walk_at "q"
            refine ⟨G, u8, st, e, rfl, by walk_at "ex", hu8, he, fun H5 e5 => ?_⟩
            exact q_bt' (by rw [ev, h3, h4] <;> rfl) (q _ (by walk_at "ex"))
          · walk_at "q"
            exact q_bt' (by rw [ev, h3, h4] <;> rfl) (q _ (by walk_at "ex"))
        · walk_at "q"
          exact q_bt' (by rw [ev, h3] <;> rfl) (q _ (by walk_at "ex"))
abbrev s_are_rules : Stmt := topS 29
abbrev N_are_rules : List Str := ["processes", "channels", "rows", "row"]
theorem sc_are_rules : FnScope N_are_rules ["processes", "channels", "rows"] (defScope s_are_rules) := ⟨rfl, rfl, rfl, by decide +kernel, rfl, by decide +kernel, by decide +kernel⟩
theorem c_are_rules {f : Addr} {fd : FuncData} (F : FnP K "are_rules" s_are_rules f fd) (hm : mg "are_rules" = some (.ref f)) (B : Blt mg) (cs : Cst K mg) (C_is_sequence : Cal P w K mg base 1 "is_sequence" ["value"] (sp1 K dSeq)) (C_is_rule : Cal P w K mg base 4 "is_rule" ["processes", "channels", "row"] (sp_rule K isRule)) :
    Cal P w K mg base 5 "are_rules" ["processes", "channels", "rows"] (sp_rule K areRules) := by
  refine cal_of F hm sc_are_rules (fun _ _ _ _ _ _ _ us hl => match us, hl with | [_, _, _], _ => rfl) (fun vs H Q E h => ?_) (fun cdv A outer s H vs Q E hr h => ?_)
  · obtain ⟨_, _, _, _, _, _, _, _, _, _, rfl, _⟩ := h
    rfl
  · obtain ⟨G, vp, vc, v, dp, dc, d, ps, chs, n, rfl, eG, hvp, hps, hdp, hpa, hvc, hcs, hdc, hca, hv, hd, q⟩ := h
    have nd := sc_are_rules.nd
    refine ⟨_, [some _, some _, some _, none], ((pss_one (ps_ret (pe_and (pe_callC C_is_sequence (hr.mono (by omega)) (by rfl) (pa_cons (pv 2) pa_nil)) (pe_and (pe_cmpR op_le (pe_callB (call_lenK (K := K) rfl) (by rfl) B.len_ bo_len (pa_cons (pv 2) pa_nil)) (pe_gint (by rfl) cs.MOST_RULES) (nomark _)) (pe_one (pe_callB (cr_all rfl) (by rfl) B.all_ bo_all (pa_cons (pe_lc (own := [("row", 3)]) rfl nd (pi_seqK (K := K) rfl (pv 2)) (blkOk_by (N := N_are_rules) (sc := defScope s_are_rules) (by decide +kernel)) (fun _ _ _ _ _ => (pg_name (i := 3) nd rfl (by first | exact Or.inl rfl | exact Or.inr rfl))) (fun _ _ _ _ _ => pts_nil) (fun _ _ _ _ _ => (pe_callC C_is_rule (hr.mono (by omega)) (by rfl) (pa_cons (pv 0) (pa_cons (pv 1) (pa_cons (pv 3) pa_nil)))))) pa_nil)))))))), rfl, ?_⟩
    walk_at "q"
    refine ⟨G, v, d, rfl, eG, hv, hd, fun H1 e1 => ?_⟩
    walk_at "q"
    refine q_ifb (fun h => ?_) (fun h => ?_)
    · obtain ⟨ds, hs⟩ := seq_of h
      have ev : areRules ps chs d = (decide (ds.length ≤ 40) && ds.all (isRule ps chs)) := by
        unfold areRules
        rw [hs.items]
      walk_at "q"
      refine q_lenRS hv hs (by walk_at "ex") ?_
      walk_at "q"
      refine q_ifd (fun h2 => ?_) (fun h2 => ?_)
      · walk_at "q"
        refine q_lcV rfl hv hs (by walk_at "ex") (by omega) (R := fun i y _ => y = V.bl (optB (isRule ps chs) ds[i]?)) (fun _ _ _ _ _ h => h) (fun i hi u G' H' gr ru C N hC => ?_) (fun D ys G' H' gr hD _ _ hl hy => ?_)
        · have w1 := gr.w
          walk_at "q"
          refine ⟨rfl, ?_⟩
          walk_at "q"
          refine ⟨G', vp, vc, u, dp, dc, _, ps, chs, n, rfl, by walk_at "ex", hvp.mono gr.g, hps, hdp, hpa, hvc.mono gr.g, hcs, hdc, hca, ru, shp_mem hs hd _ (List.getElem_mem hi), fun H2 e2 => ?_⟩
          exact hC _ G' _ (by walk_at "gro") (by show _ = V.bl (optB (isRule ps chs) ds[i]?); rw [List.getElem?_eq_getElem hi] <;> rfl)
        · have k1 := gr.ex
          walk_at "q"
          rw [bls_of (G' := G') hl hy] at hD
          refine q_all hD ?_
          rw [range_all (isRule ps chs) ds]
          exact q_bt' (by rw [ev, decide_eq_true (by omega)] <;> rfl) (q _ (by walk_at "ex"))
      · walk_at "q"
        exact q_bt' (by rw [ev, decide_eq_false (by omega)] <;> rfl) (q _ (by walk_at "ex"))
    · walk_at "q"
      exact q_bt' (by unfold areRules; rw [seq_no h]) (q _ (by walk_at "ex"))
end
end Cw

set_option maxHeartbeats 4000000
namespace Cw
open PySem PySem.Spec PyProof.Rows L2
section
variable {P : Program} {w : World} {K : PySem.W.Frag} {mg : Str → Option Value} {base : Heap}
abbrev s_Net___init__ : Stmt := clsInit (topS 20) 0
abbrev N_Net___init__ : List Str := ["self", "processes", "channels", "rules", "row", "process", "state", "act", "then"]
theorem sc_Net___init__ : FnScope N_Net___init__ ["self", "processes", "channels", "rules"] (defScope s_Net___init__) := ⟨rfl, rfl, rfl, by decide +kernel, rfl, by decide +kernel, by decide +kernel⟩
theorem c_Net {C CB f : Addr} {fd : FuncData} (F : FunD K "__init__" "Net.__init__" (defArgs s_Net___init__) (defBody s_Net___init__) (defScope s_Net___init__) [] [] f fd) (M : L2.Mk K C f) (nt : NtC K mg C) (B : Blt mg) (T_BadValue : Xn K mg "BadValue" "at" CB) (C_are_processes : Cal P w K mg base 4 "are_processes" ["rows"] (sp1 K areProcs))
    (C_are_channels : Cal P w K mg base 4 "are_channels" ["processes", "rows"] (spN K fun ps => areChans ps.length)) (C_are_rules : Cal P w K mg base 5 "are_rules" ["processes", "channels", "rows"] (sp_rule K areRules)) : Mkx P w K mg base 6 "Net" C ["self", "processes", "channels", "rules"] (sp_net K C CB) := by
  refine mkx_of F M nt.g sc_Net___init__ (fun _ _ _ _ _ _ _ us hl => match us, hl with | [_, _, _, _], _ => rfl) (fun vs H Q E h => ?_) (fun cdv A outer s H vs Q E hr h => ?_)
  · obtain ⟨_, _, _, _, _, _, _, _, _, rfl, _⟩ := h
    rfl
  · obtain ⟨G, a, dx, v1, v2, v3, d1, d2, d3, rfl, eG, ga, hA, h1, s1, h2, s2, h3, s3, bad, good⟩ := h
    have nd := sc_Net___init__.nd
    refine ⟨_, [some _, some _, some _, some _, none, none, none, none, none], ((pss_cons (ps_if (pt_not (pt_val (pe_callC C_are_processes (hr.mono (by omega)) (by rfl) (pa_cons (pv 1) pa_nil)))) (pss_one (ps_raiseX rfl T_BadValue hr (takes_of rfl rfl rfl rfl) (pa_cons pe_int pa_nil) (by rfl))) pss_nil)
      (pss_cons (ps_if (pt_not (pt_val (pe_callC C_are_channels (hr.mono (by omega)) (by rfl) (pa_cons (pv 1) (pa_cons (pv 2) pa_nil))))) (pss_one (ps_raiseX rfl T_BadValue hr (takes_of rfl rfl rfl rfl) (pa_cons pe_int pa_nil) (by rfl))) pss_nil)
      (pss_cons (ps_if (pt_not (pt_val (pe_callC C_are_rules (hr.mono (by omega)) (by rfl) (pa_cons (pv 1) (pa_cons (pv 2) (pa_cons (pv 3) pa_nil)))))) (pss_one (ps_raiseX rfl T_BadValue hr (takes_of rfl rfl rfl rfl) (pa_cons pe_int pa_nil) (by rfl))) pss_nil)
      (pss_cons (ps_fldK (K := K) rfl (pv 0) (pe_callTy (call_tupK (K := K) rfl) (by rfl) B.tuple_ bo_tuple (pa_cons (pe_lc (own := [("row", 4)]) rfl nd (pi_seqK (K := K) rfl (pv 1)) (blkOk_by (N := N_Net___init__) (sc := defScope s_Net___init__) (by decide +kernel)) (fun _ _ _ _ _ => (pg_name (i := 4) nd rfl (by first | exact Or.inl rfl | exact Or.inr rfl))) (fun _ _ _ _ _ => pts_nil) (fun _ _ _ _ _ => (pe_callTy (call_tupK (K := K) rfl) (by rfl) B.tuple_ bo_tuple (pa_cons (pv 4) pa_nil)))) pa_nil)) rfl)
      (pss_cons (ps_fldK (K := K) rfl (pv 0) (pe_callTy (call_tupK (K := K) rfl) (by rfl) B.tuple_ bo_tuple (pa_cons (pe_lc (own := [("row", 4)]) rfl nd (pi_seqK (K := K) rfl (pv 2)) (blkOk_by (N := N_Net___init__) (sc := defScope s_Net___init__) (by decide +kernel)) (fun _ _ _ _ _ => (pg_name (i := 4) nd rfl (by first | exact Or.inl rfl | exact Or.inr rfl))) (fun _ _ _ _ _ => pts_nil) (fun _ _ _ _ _ => (pe_callTy (call_tupK (K := K) rfl) (by rfl) B.tuple_ bo_tuple (pa_cons (pv 4) pa_nil)))) pa_nil)) rfl)
      (pss_one (ps_fldK (K := K) rfl (pv 0) (pe_callTy (call_tupK (K := K) rfl) (by rfl) B.tuple_ bo_tuple (pa_cons (pe_lc (own := [("process", 5), ("state", 6), ("act", 7), ("then", 8)]) rfl nd (pi_seqK (K := K) rfl (pv 3)) (blkOk_by (N := N_Net___init__) (sc := defScope s_Net___init__) (by decide +kernel)) (fun _ _ _ _ _ => (pg_seqK (K := K) (n := 4) rfl rfl (pgs_cons (pg_name (i := 5) nd rfl (by first | exact Or.inl rfl | exact Or.inr rfl)) (pgs_cons (pg_name (i := 6) nd rfl (by first | exact Or.inl rfl | exact Or.inr rfl)) (pgs_cons (pg_name (i := 7) nd rfl (by first | exact Or.inl rfl | exact Or.inr rfl)) (pgs_cons (pg_name (i := 8) nd rfl (by first | exact Or.inl rfl | exact Or.inr rfl)) pgs_nil)))))) (fun _ _ _ _ _ => pts_nil) (fun _ _ _ _ _ => (pe_tup (pa_cons (pv 5) (pa_cons (pv 6) (pa_cons (pe_callTy (call_tupK (K := K) rfl) (by rfl) B.tuple_ bo_tuple (pa_cons (pv 7) pa_nil)) (pa_cons (pv 8) pa_nil))))))) pa_nil)) rfl)))))))), rfl, ?_⟩
    walk_at "q"
    refine ⟨G, v1, d1, rfl, eG, h1, s1, fun H1 e1 => ?_⟩
    walk_at "q"
    refine q_ifb (fun t1 => ?_) (fun t1 => ?_)
    · walk_at "q"
      exact fun d hd => bad 0 _ d (by rw [netBad, if_pos (by simpa using t1)]) (by walk_at "ex") hd
    · have t1' : areProcs d1 = true := by simpa using t1
      obtain ⟨ps, q1, l1, p1⟩ := procs_seq t1'
      have n1 : netBad d1 d2 d3 = if areChans ps.length d2 = false then some 1 else if areRules ps (itemsD d2) d3 = false then some 2 else none := by
        rw [netBad, if_neg (by rw [t1']; decide), Seq.it q1]
      walk_at "q"
      refine ⟨G, v1, v2, d1, d2, ps, rfl, by walk_at "ex", h1, q1, s1, h2, s2, fun H2 e2 => ?_⟩
      walk_at "q"
      refine q_ifb (fun t2 => ?_) (fun t2 => ?_)
      · walk_at "q"
        exact fun d hd => bad 1 _ d (by rw [n1, if_pos (by simpa using t2)]) (by walk_at "ex") hd
      · have t2' : areChans ps.length d2 = true := by simpa using t2
        obtain ⟨chs, q2, l2, p2⟩ := chans_seq t2'
        rw [if_neg (by rw [t2']; decide), Seq.it q2] at n1
        walk_at "q"
        refine ⟨G, v1, v2, v3, d1, d2, d3, ps, chs, ps.length, rfl, by walk_at "ex", h1, q1, s1, p1, h2, q2, s2, p2, h3, s3, fun H3 e3 => ?_⟩
        walk_at "q"
        refine q_ifb (fun t3 => ?_) (fun t3 => ?_)
        · walk_at "q"
          exact fun d hd => bad 2 _ d (by rw [n1, if_pos (by simpa using t3)]) (by walk_at "ex") hd
        · have t3' : areRules ps chs d3 = true := by simpa using t3
          obtain ⟨rs, q3, l3, p3⟩ := rules_seq t3'
          rw [if_neg (by rw [t3']; decide)] at n1
          have e0 : netOf d1 d2 d3 = ⟨ps.map rowT, chs.map rowT, rs.map ruleT⟩ := by
            unfold netOf
            rw [Seq.it q1, Seq.it q2, Seq.it q3]
          have good' := good n1
          rw [e0] at good'
          walk_at "q"
          have g0 : Gro (some a) G H G H3 := Gro.start eG (by walk_at "ex")
          have hA3 : H3 a = some (.ins C dx []) := by walk_at "at"
          refine q_lcV rfl h1 q1 (by walk_at "ex") (by omega) (R := fun i y G' => Rp K G' y (optD rowT ps[i]?)) (fun _ _ _ _ x h => h.mono x) (fun i hi u G' H' gr ru C N hC => ?_) (fun D ys G1 H4 gr1 hD _ _ hl hy => ?_)
          · have w1 := gr.w
            walk_at "q"
            refine ⟨rfl, ?_⟩
            walk_at "q"
            obtain ⟨_, _, hsi⟩ := row2 (bA (List.all_eq_true.mp p1 _ (List.getElem_mem hi))).1
            refine q_tupRS ru hsi (by walk_at "ex") (fun G2 H2 t g2 rt => hC _ G2 _ g2 ?_)
            rw [List.getElem?_eq_getElem hi]
            show Rp K G2 _ (.tuple (itemsD ps[i]))
            rw [Seq.it hsi]
            exact rt
          · walk_at "q"
            refine q_tupNew hD gr1.w (rps_of hl hy) (fun G2 H5 t1 gr2 rt1 => ?_)
            have ga2 := (g0.then_ gr1 (by rw [hA3]; exact fun z => nomatch z)).then_ gr2 (by rw [gr1.ex _ _ hA3]; exact fun z => nomatch z)
            have hA5 := gr2.ex _ _ (gr1.ex _ _ hA3)
            have na2 : G2 a = none := ga2.n a (by rw [hA]; exact fun z => nomatch z) ga
            walk_at "q"
            refine ⟨a, C, dx, _, rfl, hA5, nt.c, nt.n1, by decide, ?_⟩
            have g6 := ga2.put (o := .ins C dx (putF "processes" (.ref t1) [])) na2
            have hA6 : L2.upd H5 a (.ins C dx (putF "processes" (.ref t1) [])) a = some (.ins C dx [("processes", .ref t1)]) := upd_same
            generalize L2.upd H5 a (.ins C dx (putF "processes" (.ref t1) [])) = H6 at g6 hA6 ⊢
            walk_at "q"
            refine q_lcV rfl (h2.mono g6.g) q2 g6.w (by omega) (R := fun i y G' => Rp K G' y (optD rowT chs[i]?)) (fun _ _ _ _ x h => h.mono x) (fun i hi u G' H' gr ru C N hC => ?_) (fun D ys G7 H7 gr7 hD _ _ hl hy => ?_)
            · have w1 := gr.w
              walk_at "q"
              refine ⟨rfl, ?_⟩
              walk_at "q"
              obtain ⟨_, _, _, _, hsi⟩ := row4 (bA (List.all_eq_true.mp p2 _ (List.getElem_mem hi))).1
              refine q_tupRS ru hsi (by walk_at "ex") (fun G2 H2 t g2 rt => hC _ G2 _ g2 ?_)
              rw [List.getElem?_eq_getElem hi]
              show Rp K G2 _ (.tuple (itemsD chs[i]))
              rw [Seq.it hsi]
              exact rt
            · walk_at "q"
              refine q_tupNew hD gr7.w (rps_of hl hy) (fun G8 H8 t2 gr8 rt2 => ?_)
              have ga8 := (g6.then_ gr7 (by rw [hA6]; exact fun z => nomatch z)).then_ gr8 (by rw [gr7.ex _ _ hA6]; exact fun z => nomatch z)
              have hA8 := gr8.ex _ _ (gr7.ex _ _ hA6)
              have na8 : G8 a = none := ga8.n a (by rw [hA]; exact fun z => nomatch z) ga
              walk_at "q"
              refine ⟨a, C, dx, _, rfl, hA8, nt.c, nt.n2, by simp, ?_⟩
              have g9 := ga8.put (o := .ins C dx (putF "channels" (.ref t2) [("processes", .ref t1)])) na8
              have hA9 : L2.upd H8 a (.ins C dx (putF "channels" (.ref t2) [("processes", .ref t1)])) a = some (.ins C dx [("processes", .ref t1), ("channels", .ref t2)]) := upd_same
              generalize L2.upd H8 a (.ins C dx (putF "channels" (.ref t2) [("processes", .ref t1)])) = H9 at g9 hA9 ⊢
              walk_at "q"
              refine q_lcV rfl (h3.mono g9.g) q3 g9.w (by omega) (R := fun i y G' => Rp K G' y (optD ruleT rs[i]?)) (fun _ _ _ _ x h => h.mono x) (fun i hi u G' H' gr ru C N hC => ?_) (fun D ys G10 H10 gr10 hD _ _ hl hy => ?_)
              · have w1 := gr.w
                obtain ⟨r4, as, has⟩ := rule_parts (List.all_eq_true.mp p3 _ (List.getElem_mem hi))
                obtain ⟨x0, x1, x2, x3, hsi⟩ := row4 r4
                walk_at "q"
                refine q_gSeq ru hsi (by walk_at "ex") rfl (fun us hus => ?_)
                obtain ⟨u0, u1, u2, u3, rfl, r0, r1, r2, r3⟩ := rps4 hus
                walk_at "q"
                refine ⟨rfl, ?_⟩
                walk_at "q"
                rw [show atD rs[i] 2 = x2 from Seq.at hsi 2] at has
                refine q_tupRS r2 has (by walk_at "ex") (fun G2 H2 t g2 rt => ?_)
                walk_at "q"
                rename_i p hp
                refine hC _ (L2.upd G2 p (.tup [u0, u1, .ref t, u3])) _ (g2.trans0 (Gro.new g2.w hp)) ?_
                have nx := Ex.new (o := .tup [u0, u1, .ref t, u3]) (g2.w.back hp)
                rw [List.getElem?_eq_getElem hi]
                show Rp K _ _ (.tuple [atD rs[i] 0, atD rs[i] 1, .tuple (itemsD (atD rs[i] 2)), atD rs[i] 3])
                rw [show atD rs[i] 0 = x0 from Seq.at hsi 0, show atD rs[i] 1 = x1 from Seq.at hsi 1, show atD rs[i] 2 = x2 from Seq.at hsi 2, show atD rs[i] 3 = x3 from Seq.at hsi 3, Seq.it has]
                exact .tup (.inl (.inl upd_same)) (.cons (r0.mono (g2.g.trans nx)) (.cons (r1.mono (g2.g.trans nx)) (.cons (rt.mono nx) (.cons (r3.mono (g2.g.trans nx)) .nil))))
              · walk_at "q"
                refine q_tupNew hD gr10.w (rps_of hl hy) (fun G11 H11 t3 gr11 rt3 => ?_)
                have ga11 := (g9.then_ gr10 (by rw [hA9]; exact fun z => nomatch z)).then_ gr11 (by rw [gr10.ex _ _ hA9]; exact fun z => nomatch z)
                have hA11 := gr11.ex _ _ (gr10.ex _ _ hA9)
                have na11 : G11 a = none := ga11.n a (by rw [hA]; exact fun z => nomatch z) ga
                walk_at "q"
                refine ⟨a, C, dx, _, rfl, hA11, nt.c, nt.n3, by simp, ?_⟩
                exact good' G11 _ (.ref t1) (.ref t2) (.ref t3) (ga11.put na11) upd_same (rt1.mono (gr7.g.trans (gr8.g.trans (gr10.g.trans gr11.g)))) (rt2.mono (gr10.g.trans gr11.g)) rt3
end
end Cw

set_option maxHeartbeats 4000000
namespace Cw
open PySem PySem.Spec PyProof.Rows L2
section
variable {P : Program} {w : World} {K : PySem.W.Frag} {mg : Str → Option Value} {base : Heap}
abbrev s_start : Stmt := topS 31
abbrev N_start : List Str := ["net", "many"]
theorem sc_start : FnScope N_start ["net"] (defScope s_start) := ⟨rfl, rfl, rfl, by decide +kernel, rfl, by decide +kernel, by decide +kernel⟩
theorem fn_start {C f : Addr} {fd : FuncData} (F : FnP K "start" s_start f fd) (B : Blt mg) (nt : NtC K mg C) : FnOk P w K mg base CX0 1 f fd ["net"] (sp_start K C) := by
  refine fnok_of F sc_start (fun vs H Q E h => ?_) (fun cdv A outer s H vs Q E hr h => ?_)
  · obtain ⟨_, _, _, rfl, _⟩ := h
    rfl
  · obtain ⟨G, a, N, rfl, eG, hN, lp, lc, q⟩ := h
    have nd := sc_start.nd
    refine ⟨_, [some _, none], ((pss_cons (ps_set (i := 1) nd rfl (Or.inl rfl) (pe_callB (call_lenK (K := K) rfl) (by rfl) B.len_ bo_len (pa_cons (pe_fldK (K := K) rfl (pv 0)) pa_nil)))
      (pss_one (ps_ret (pe_tup (pa_cons (pe_op (op_mulB (K := K) rfl) (pe_tup (pa_cons pe_int pa_nil)) (pe_callB (call_lenK (K := K) rfl) (by rfl) B.len_ bo_len (pa_cons (pe_fldK (K := K) rfl (pv 0)) pa_nil))) (pa_cons (pe_op (op_mulB (K := K) rfl) (pe_tup (pa_cons pe_int pa_nil)) (pv 1)) (pa_cons (pe_op (op_mulB (K := K) rfl) (pe_tup (pa_cons (pe_tup pa_nil) pa_nil)) (pv 1)) pa_nil)))))))), rfl, ?_⟩
    walk_at "q"
    rename_i v hv p1 hp1 v2 hv2
    have g1 := Gro.new (o := .tup [.int 0]) eG hp1
    have r1 : Rp K (L2.upd G p1 (.tup [.int 0])) (.ref p1) (.tuple [.int 0]) := .tup (.inl (.inl upd_same)) (.cons (.int 0) .nil)
    refine q_rep1 r1 g1.w lp (fun G2 H2 p2 g2 r2 => ?_)
    walk_at "q"
    rename_i p3 hp3
    have g3 := Gro.new (o := .tup [.int 0]) g2.w hp3
    have r3 : Rp K (L2.upd G2 p3 (.tup [.int 0])) (.ref p3) (.tuple [.int 0]) := .tup (.inl (.inl upd_same)) (.cons (.int 0) .nil)
    refine q_rep1 r3 g3.w lc (fun G4 H4 p4 g4 r4 => ?_)
    walk_at "q"
    rename_i p5 hp5 p6 hp6
    have g5 := Gro.new (o := .tup []) g4.w hp5
    have g6 := Gro.new (o := .tup [.ref p5]) g5.w hp6
    have r5 : Rp K (L2.upd G4 p5 (.tup [])) (.ref p5) (.tuple []) := .tup (.inl (.inl upd_same)) .nil
    have r6 : Rp K (L2.upd (L2.upd G4 p5 (.tup [])) p6 (.tup [.ref p5])) (.ref p6) (.tuple [.tuple []]) := .tup (.inl (.inl upd_same)) (.cons (r5.mono g6.g) .nil)
    refine q_rep1 r6 g6.w lc (fun G7 H7 p7 g7 r7 => ?_)
    walk_at "q"
    rename_i p8 hp8
    have g8 := Gro.new (o := .tup [.ref p2, .ref p4, .ref p7]) g7.w hp8
    refine q _ _ p8 (((((((g1.trans0 g2).trans0 g3).trans0 g4).trans0 g5).trans0 g6).trans0 g7).trans0 g8) ?_
    have e4 := g5.g.trans (g6.g.trans (g7.g.trans g8.g))
    exact .tup (.inl (.inl upd_same)) (.cons (r2.mono (g3.g.trans (g4.g.trans e4))) (.cons (r4.mono e4) (.cons (r7.mono g8.g) .nil)))
theorem c_start {C f : Addr} {fd : FuncData} (F : FnP K "start" s_start f fd) (hm : mg "start" = some (.ref f)) (B : Blt mg) (nt : NtC K mg C) : Cal P w K mg base 1 "start" ["net"] (sp_start K C) :=
  cal_fn F hm (fn_start F B nt) (fun _ _ _ _ _ _ _ us hl => match us, hl with | [_], _ => rfl)
theorem ck_start {C f : Addr} {fd : FuncData} (F : FnP K "start" s_start f fd) (hm : mg "start" = some (.ref f)) (B : Blt mg) (nt : NtC K mg C) : CalXK P w K mg base CX0 1 "start" ["net"] ["net"] [0] (sp_start K C) :=
  calK_fn F hm (fn_start F B nt) (fun _ _ _ _ _ _ _ us hl => match us, hl with | [_], _ => rfl)
abbrev s_act_word : Stmt := topS 34
abbrev N_act_word : List Str := ["net", "rule"]
theorem sc_act_word : FnScope N_act_word ["net", "rule"] (defScope s_act_word) := ⟨rfl, rfl, rfl, by decide +kernel, rfl, by decide +kernel, by decide +kernel⟩
theorem c_act_word {C f : Addr} {fd : FuncData} (F : FnP K "act_word" s_act_word f fd) (hm : mg "act_word" = some (.ref f)) (B : Blt mg) (nt : NtC K mg C) (C_is_below : Cal P w K mg base 2 "is_below" ["value", "end"] (sp2 K isBelow)) : Cal P w K mg base 3 "act_word" ["net", "rule"] (spNet K C wordD) := by
  refine cal_of F hm sc_act_word (fun _ _ _ _ _ _ _ us hl => match us, hl with | [_, _], _ => rfl) (fun vs H Q E h => ?_) (fun cdv A outer s H vs Q E hr h => ?_)
  · obtain ⟨_, _, _, _, _, rfl, _⟩ := h
    rfl
  · obtain ⟨G, a, N, v, d, rfl, eG, hN, ok, hv, hd, q⟩ := h
    have nd := sc_act_word.nd
    refine ⟨_, [some _, some _], ((pss_one (ps_ret (pe_ifExp (pt_val (pe_callC C_is_below (hr.mono (by omega)) (by rfl) (pa_cons (pv 1) (pa_cons (pe_callB (call_lenK (K := K) rfl) (by rfl) B.len_ bo_len (pa_cons (pe_fldK (K := K) rfl (pv 0)) pa_nil)) pa_nil)))) (pe_ix (ix_seqK (K := K) rfl) (pe_ix (ix_seqK (K := K) rfl) (pe_ix (ix_seqK (K := K) rfl) (pe_fldK (K := K) rfl (pv 0)) (pv 1) (fun _ _ => rfl)) pe_int (fun _ _ => rfl)) pe_int (fun _ _ => rfl)) pe_non)))), rfl, ?_⟩
    walk_at "q"
    refine ⟨G, v, _, d, rfl, by walk_at "ex", hv, hd, fun H1 e1 => ?_⟩
    walk_at "q"
    refine q_ifb (fun h => ?_) (fun h => ?_)
    · obtain ⟨i, rfl, i0, i1⟩ := below_int h
      cases hv
      obtain ⟨k, rfl⟩ := Int.eq_ofNat_of_zero_le i0
      have hk : k < N.r.length := by omega
      obtain ⟨p, st, wd, as, t, er⟩ := ok.r _ (List.getElem_mem hk)
      walk_at "q"
      rename_i vr2 hvr2
      refine q_ixRT hvr2 (by walk_at "ex") (atI_at hk) (fun u1 hu1 => ?_)
      rw [er] at hu1
      walk_at "q"
      refine q_ixRT hu1 (by walk_at "ex") rfl (fun u2 hu2 => ?_)
      walk_at "q"
      refine q_ixRT hu2 (by walk_at "ex") (atI_nat (j := 0) (v := PyData.str wd) rfl) (fun u3 hu3 => ?_)
      refine q _ _ (by walk_at "ex") ?_
      have e : wordD N (.int k) = .str wd := by
        rw [wordD, h, if_pos rfl]
        show atD (atD (N.r.getD k .none) 2) 0 = _
        rw [List.getD_eq_getElem?_getD, List.getElem?_eq_getElem hk]
        show atD (atD N.r[k] 2) 0 = _
        rw [er] <;> rfl
      rw [e]
      exact hu3
    · walk_at "q"
      refine q _ _ (by walk_at "ex") ?_
      rw [wordD, h, if_neg Bool.false_ne_true]
      exact .non
abbrev s_is_deed : Stmt := topS 33
abbrev N_is_deed : List Str := ["net", "deed"]
theorem sc_is_deed : FnScope N_is_deed ["net", "deed"] (defScope s_is_deed) := ⟨rfl, rfl, rfl, by decide +kernel, rfl, by decide +kernel, by decide +kernel⟩
theorem c_is_deed {C f : Addr} {fd : FuncData} (F : FnP K "is_deed" s_is_deed f fd) (hm : mg "is_deed" = some (.ref f)) (B : Blt mg) (cs : Cst K mg) (nt : NtC K mg C) (C_is_row : Cal P w K mg base 2 "is_row" ["value", "many"] (sp2 K isRow)) (C_is_below : Cal P w K mg base 2 "is_below" ["value", "end"] (sp2 K isBelow))
    (C_is_number : Cal P w K mg base 1 "is_number" ["value"] (sp1 K isNum)) (C_act_word : Cal P w K mg base 3 "act_word" ["net", "rule"] (spNet K C wordD)) : Cal P w K mg base 4 "is_deed" ["net", "deed"] (spNetB K C isDeedD) := by
  refine cal_of F hm sc_is_deed (fun _ _ _ _ _ _ _ us hl => match us, hl with | [_, _], _ => rfl) (fun vs H Q E h => ?_) (fun cdv A outer s H vs Q E hr h => ?_)
  · obtain ⟨_, _, _, _, _, rfl, _⟩ := h
    rfl
  · obtain ⟨G, a, N, v, d, rfl, eG, hN, ok, hv, hd, q⟩ := h
    have nd := sc_is_deed.nd
    refine ⟨_, [some _, some _], ((pss_cons (ps_if (pt_val (pe_callC C_is_row (hr.mono (by omega)) (by rfl) (pa_cons (pv 1) (pa_cons pe_int pa_nil)))) (pss_one (ps_ret (pe_and (pe_cmpR (op_eqK (K := K) rfl (hu64 hr)) (pe_ix (ix_seqK (K := K) rfl) (pv 1) pe_int (fun _ _ => rfl)) pe_str (nomark _)) (pe_one (pe_cmpR (op_inB (K := K) rfl (hu65 hr)) (pe_callC C_act_word (hr.mono (by omega)) (by rfl) (pa_cons (pv 0) (pa_cons (pe_ix (ix_seqK (K := K) rfl) (pv 1) pe_int (fun _ _ => rfl)) pa_nil))) (pe_tup (pa_cons pe_str (pa_cons pe_str pa_nil))) (by with_unfolding_all rfl)))))) pss_nil)
      (pss_cons (ps_if (PW.pt (pw_or (pt_not (pt_val (pe_callC C_is_row (hr.mono (by omega)) (by rfl) (pa_cons (pv 1) (pa_cons pe_int pa_nil))))) (pw_or1 (pt_not (pt_val (pe_callC C_is_number (hr.mono (by omega)) (by rfl) (pa_cons (pe_ix (ix_seqK (K := K) rfl) (pv 1) pe_int (fun _ _ => rfl)) pa_nil))))))) (pss_one (ps_ret pe_bl)) pss_nil)
      (pss_cons (ps_if (pt_cmpR (op_eqK (K := K) rfl (hu64 hr)) (pe_ix (ix_seqK (K := K) rfl) (pv 1) pe_int (fun _ _ => rfl)) pe_str (nomark _)) (pss_one (ps_ret (pe_cmpR (op_eqK (K := K) rfl (hu64 hr)) (pe_callC C_act_word (hr.mono (by omega)) (by rfl) (pa_cons (pv 0) (pa_cons (pe_ix (ix_seqK (K := K) rfl) (pv 1) pe_int (fun _ _ => rfl)) pa_nil))) pe_str (nomark _)))) pss_nil)
      (pss_one (ps_ret (pe_and (pe_cmpR (op_eqK (K := K) rfl (hu64 hr)) (pe_ix (ix_seqK (K := K) rfl) (pv 1) pe_int (fun _ _ => rfl)) pe_str (nomark _)) (pe_and (pe_callC C_is_below (hr.mono (by omega)) (by rfl) (pa_cons (pe_ix (ix_seqK (K := K) rfl) (pv 1) pe_int (fun _ _ => rfl)) (pa_cons (pe_callB (call_lenK (K := K) rfl) (by rfl) B.len_ bo_len (pa_cons (pe_fldK (K := K) rfl (pv 0)) pa_nil)) pa_nil))) (pe_one (pe_cmpR (op_inB (K := K) rfl (hu65 hr)) (pe_ix (ix_seqK (K := K) rfl) (pe_ix (ix_seqK (K := K) rfl) (pe_fldK (K := K) rfl (pv 0)) (pe_ix (ix_seqK (K := K) rfl) (pv 1) pe_int (fun _ _ => rfl)) (fun _ _ => rfl)) pe_int (fun _ _ => rfl)) (pe_gref (by rfl) cs.LOSSY) (by with_unfolding_all rfl))))))))))), rfl, ?_⟩
    walk_at "q"
    refine ⟨G, v, 2, d, rfl, eG, hv, hd, fun H1 e1 => ?_⟩
    walk_at "q"
    refine q_ifb (fun h => ?_) (fun h => ?_)
    · obtain ⟨x0, x1, hs⟩ := row2 h
      have h0 := shp_mem hs hd x0 (by simp)
      have h1 := shp_mem hs hd x1 (by simp)
      have ev : isDeedD N d = (PyData.eqv x0 (.str "act") && [PyData.str "do", .str "send"].any fun k => PyData.eqv k (wordD N x1)) := by
        rw [isDeedD, h, if_pos rfl, show atD d 0 = x0 from Seq.at hs 0, show atD d 1 = x1 from Seq.at hs 1]
      walk_at "q"
      refine q_ixRS hv hs (by walk_at "ex") rfl (fun u hu => ?_)
      walk_at "q"
      refine q_eqR hu (.str _) (by walk_at "ex") h0 (shp_word (by decide +kernel)) ?_
      walk_at "q"
      refine q_ifb (fun h2 => ?_) (fun h2 => ?_)
      · walk_at "q"
        refine q_ixRS hv hs (by walk_at "ex") rfl (fun u1 hu1 => ?_)
        walk_at "q"
        refine ⟨G, a, N, u1, x1, rfl, by walk_at "ex", hN, ok, hu1, h1, fun H2 u2 e2 hu2 => ?_⟩
        walk_at "q"
        rename_i p hp
        have x2 : Ex G H2 := by walk_at "ex"
        refine q_inT (hu2.mono (Ex.new (x2.back hp))) (.tup (.inl (.inl upd_same)) (.cons (.str _) (.cons (.str _) .nil))) (Ex.add (x2.trans (Ex.new hp)) upd_same) (wordD_shp ok x1) shp_pair ?_
        clear x2
        exact q_bt' (by rw [ev, h2] <;> rfl) (q _ (by walk_at "ex"))
      · walk_at "q"
        exact q_bt' (by rw [ev, h2] <;> rfl) (q _ (by walk_at "ex"))
    · walk_at "q"
      refine ⟨G, v, 3, d, rfl, by walk_at "ex", hv, hd, fun H2 e2 => ?_⟩
      walk_at "q"
      refine q_ifb (fun h2 => ?_) (fun h2 => ?_)
      · walk_at "q"
        exact q_bt' (by rw [isDeedD, h, if_neg Bool.false_ne_true, h2] <;> rfl) (q _ (by walk_at "ex"))
      · have h2' : isRow 3 d = true := by simpa using h2
        obtain ⟨x0, x1, x2, hs⟩ := row3 h2'
        have h0 := shp_mem hs hd x0 (by simp)
        have h1 := shp_mem hs hd x1 (by simp)
        have h3 := shp_mem hs hd x2 (by simp)
        have ev : isDeedD N d = if (!isNum x2) = true then false else if PyData.eqv x0 (.str "take") then PyData.eqv (wordD N x1) (.str "take") else PyData.eqv x0 (.str "lose") && (isBelow N.c.length x1 && [PyData.str "order lossy", .str "loose lossy"].any fun k => PyData.eqv k (atD (chanAt N (natD x1)) 3)) := by
          rw [isDeedD, h, if_neg Bool.false_ne_true, h2', show atD d 0 = x0 from Seq.at hs 0, show atD d 1 = x1 from Seq.at hs 1, show atD d 2 = x2 from Seq.at hs 2] <;> rfl
        walk_at "q"
        refine q_ixRS hv hs (by walk_at "ex") rfl (fun u hu => ?_)
        walk_at "q"
        refine ⟨G, u, x2, rfl, by walk_at "ex", hu, h3, fun H3 e3 => ?_⟩
        walk_at "q"
        refine q_ifb (fun h4 => ?_) (fun h4 => ?_)
        · walk_at "q"
          exact q_bt' (by rw [ev, if_pos h4]) (q _ (by walk_at "ex"))
        · rw [if_neg (by rw [h4]; decide)] at ev
          walk_at "q"
          refine q_ixRS hv hs (by walk_at "ex") rfl (fun u1 hu1 => ?_)
          walk_at "q"
          refine q_eqR hu1 (.str _) (by walk_at "ex") h0 (shp_word (by decide +kernel)) ?_
          walk_at "q"
          refine q_ifb (fun h5 => ?_) (fun h5 => ?_)
          · walk_at "q"
            refine q_ixRS hv hs (by walk_at "ex") rfl (fun u2 hu2 => ?_)
            walk_at "q"
            refine ⟨G, a, N, u2, x1, rfl, by walk_at "ex", hN, ok, hu2, h1, fun H4 u3 e4 hu3 => ?_⟩
            walk_at "q"
            refine q_eqR hu3 (.str _) (by walk_at "ex") (wordD_shp ok x1) (shp_word (by decide +kernel)) ?_
            exact q_bt' (by rw [ev, h5, if_pos rfl]) (q _ (by walk_at "ex"))
          · rw [h5, if_neg Bool.false_ne_true] at ev
            walk_at "q"
            refine q_ixRS hv hs (by walk_at "ex") rfl (fun u2 hu2 => ?_)
            walk_at "q"
            refine q_eqR hu2 (.str _) (by walk_at "ex") h0 (shp_word (by decide +kernel)) ?_
            walk_at "q"
            refine q_ifb (fun h6 => ?_) (fun h6 => ?_)
            · walk_at "q"
              refine q_ixRS hv hs (by walk_at "ex") rfl (fun u3 hu3 => ?_)
              walk_at "q"
              refine ⟨G, u3, _, x1, rfl, by walk_at "ex", hu3, h1, fun H4 e4 => ?_⟩
              walk_at "q"
              refine q_ifb (fun h7 => ?_) (fun h7 => ?_)
              · obtain ⟨i, rfl, i0, i1⟩ := below_int h7
                cases hu3
                obtain ⟨k, rfl⟩ := Int.eq_ofNat_of_zero_le i0
                have hk : k < N.c.length := by omega
                obtain ⟨z, gv, tk, kd, ec⟩ := ok.c _ (List.getElem_mem hk)
                have ek : atD (chanAt N (natD (.int (k : Int)))) 3 = .str kd := by
                  show atD (N.c.getD k .none) 3 = _
                  rw [List.getD_eq_getElem?_getD, List.getElem?_eq_getElem hk]
                  show atD N.c[k] 3 = _
                  rw [ec] <;> rfl
                have sk : Shp (.str kd) := by
                  have s1 := shp_mem (.inr rfl) ok.sc _ (List.getElem_mem hk)
                  rw [ec] at s1
                  exact shp_mem (.inr rfl) s1 (.str kd) (by simp)
                walk_at "q"
                rename_i vc hvc
                refine q_ixRS hv hs (by walk_at "ex") rfl (fun u4 hu4 => ?_)
                cases hu4
                refine q_ixRT hvc (by walk_at "ex") (atI_at hk) (fun u5 hu5 => ?_)
                rw [ec] at hu5
                walk_at "q"
                refine q_ixRT hu5 (by walk_at "ex") rfl (fun u6 hu6 => ?_)
                walk_at "q"
                refine q_inT hu6 (cs.lossy G) (by walk_at "ex") sk shp_lossy ?_
                exact q_bt' (by rw [ev, h6, h7, ek] <;> rfl) (q _ (by walk_at "ex"))
              · walk_at "q"
                exact q_bt' (by rw [ev, h6, h7] <;> rfl) (q _ (by walk_at "ex"))
            · walk_at "q"
              exact q_bt' (by rw [ev, h6] <;> rfl) (q _ (by walk_at "ex"))
end
end Cw

set_option maxHeartbeats 4000000
namespace Cw
open PySem PySem.Spec PyProof.Rows L2
section
variable {P : Program} {w : World} {K : PySem.W.Frag} {mg : Str → Option Value} {base : Heap}
abbrev s_changed : Stmt := topS 42
abbrev N_changed : List Str := ["row", "at", "value"]
theorem sc_changed : FnScope N_changed ["row", "at", "value"] (defScope s_changed) := ⟨rfl, rfl, rfl, by decide +kernel, rfl, by decide +kernel, by decide +kernel⟩
theorem c_changed {f : Addr} {fd : FuncData} (F : FnP K "changed" s_changed f fd) (hm : mg "changed" = some (.ref f)) (B : Blt mg) : Cal P w K mg base 1 "changed" ["row", "at", "value"] (sp_changed K) := by
  refine cal_of F hm sc_changed (fun _ _ _ _ _ _ _ us hl => match us, hl with | [_, _, _], _ => rfl) (fun vs H Q E h => ?_) (fun cdv A outer s H vs Q E hr h => ?_)
  · obtain ⟨_, _, _, _, _, _, rfl, _⟩ := h
    rfl
  · obtain ⟨G, v, u, k, ds, e, rfl, eG, hv, hk, hl, hu, q⟩ := h
    have nd := sc_changed.nd
    refine ⟨_, [some _, some _, some _], ((pss_one (ps_ret (pe_tup (pa_starK (K := K) rfl (pe_slice (sl_anyK (K := K) rfl) (pv 0) po_none (po_some (pv 1))) (pa_cons (pv 2) (pa_starK (K := K) rfl (pe_slice (sl_anyK (K := K) rfl) (pv 0) (po_some (pe_op (op_addK (K := K) rfl) (pv 1) pe_int)) po_none) pa_nil))))))), rfl, ?_⟩
    walk_at "q"
    refine q_slTo (b := true) hv eG (fun G1 H1 p1 g1 r1 => ?_)
    refine q_starAt r1 g1.w (fun xs1 hx1 => ?_)
    walk_at "q"
    rw [show ((k : Int) + 1) = ((k + 1 : Nat) : Int) from rfl]
    refine q_slFrom (b := true) (hv.mono g1.g) g1.w (by omega) (fun G2 H2 p2 g2 r2 => ?_)
    refine q_starAt r2 g2.w (fun xs2 hx2 => ?_)
    walk_at "q"
    rw [List.append_nil]
    refine ⟨?_, fun p hp => ?_⟩
    · rw [List.length_append, List.length_cons, hx1.len, hx2.len, List.length_take, List.length_drop]
      exact Nat.le_trans (show _ ≤ 2000 by omega) (by decide)
    have g3 := Gro.new (o := .tup (xs1 ++ u :: xs2)) g2.w hp
    refine q _ _ p ((g1.trans0 g2).trans0 g3) (.tup (.inl (.inl upd_same)) ?_)
    rw [← set_cut ds e k hk]
    exact (hx1.mono (g2.g.trans g3.g)).app (.cons (hu.mono (g1.g.trans (g2.g.trans g3.g))) (hx2.mono g3.g))
abbrev s_without : Stmt := topS 41
abbrev N_without : List Str := ["present", "channel", "gone", "message"]
theorem sc_without : FnScope N_without ["present", "channel", "gone"] (defScope s_without) := ⟨rfl, rfl, rfl, by decide +kernel, rfl, by decide +kernel, by decide +kernel⟩
theorem c_without {f : Addr} {fd : FuncData} (F : FnP K "without" s_without f fd) (hm : mg "without" = some (.ref f)) (B : Blt mg) (C_changed : Cal P w K mg base 1 "changed" ["row", "at", "value"] (sp_changed K)) : Cal P w K mg base 2 "without" ["present", "channel", "gone"] (sp_without K) := by
  refine cal_of F hm sc_without (fun _ _ _ _ _ _ _ us hl => match us, hl with | [_, _, _], _ => rfl) (fun vs H Q E h => ?_) (fun cdv A outer s H vs Q E hr h => ?_)
  · obtain ⟨_, _, _, _, _, _, rfl, _⟩ := h
    rfl
  · obtain ⟨G, v, c, k, ps, r, rfl, eG, hv, hc, hl, hpl, q⟩ := h
    have nd := sc_without.nd
    have hcl := (List.getElem?_eq_some_iff.mp hc).1
    refine ⟨_, [some _, some _, some _, none], ((pss_one (ps_ret (pe_callC C_changed (hr.mono (by omega)) (by rfl) (pa_cons (pv 0) (pa_cons (pv 1) (pa_cons (pe_callTy (call_tupK (K := K) rfl) (by rfl) B.tuple_ bo_tuple (pa_cons (pe_lc (own := [("message", 3)]) rfl nd (pi_seqK (K := K) rfl (pe_ix (ix_seqK (K := K) rfl) (pv 0) (pv 1) (fun _ _ => rfl))) (blkOk_by (N := N_without) (sc := defScope s_without) (by decide +kernel)) (fun _ _ _ _ _ => (pg_name (i := 3) nd rfl (by first | exact Or.inl rfl | exact Or.inr rfl))) (fun _ _ _ _ _ => (pts_one (pt_cmpR (op_neK (K := K) rfl (hu64 hr)) (pe_ix (ix_seqK (K := K) rfl) (pv 3) pe_int (fun _ _ => rfl)) (pv 2) (nomark _)))) (fun _ _ _ _ _ => (pv 3))) pa_nil)) pa_nil))))))), rfl, ?_⟩
    walk_at "q"
    refine q_lcT ?_
    walk_at "q"
    refine q_ixRT hv eG (at_map hcl) (fun vr hvr => ?_)
    rw [(List.getElem?_eq_some_iff.mp hc).2] at hvr
    refine q_fmT (h := msgD true) (f := fun m => if decide (m.1 ≠ k) then some (msgD true m) else none) hvr eG (by omega) (fun i m u G' H' hm' gr ru C N yes no => ?_) (fun G1 H1 D g1 hD r1 => ?_)
    · have w1 := gr.w
      walk_at "q"
      refine ⟨rfl, ?_⟩
      walk_at "q"
      refine q_ixRT ru w1 (atI_nat (j := 0) rfl) (fun u0 hu0 => ?_)
      cases hu0
      walk_at "q"
      refine q_ifnd (fun h => ?_) (fun h => ?_)
      · walk_at "q"
        exact yes _ _ _ _ (by rw [if_pos]; simp; omega) (Gro.refl w1) ru
      · walk_at "q"
        exact no _ _ (by rw [if_neg]; simp; omega) (Gro.refl w1)
    · walk_at "q"
      refine q_tupRS r1 (.inl rfl) g1.w (fun G2 H2 p2 g2 r2 => ?_)
      walk_at "q"
      rw [fm_filt] at r2
      have g12 := g1.trans0 g2
      refine ⟨G2, v, .ref p2, c, ps.map (rowMD true), _, rfl, g2.w, hv.mono g12.g, by rw [List.length_map]; exact hcl, by rw [List.length_map]; exact hpl, r2, fun G3 H3 p3 g3 r3 => ?_⟩
      rw [show (.tuple ((r.filter fun m => decide (m.1 ≠ k)).map (msgD true)) : PyData) = rowMD true (r.filter fun m => decide (m.1 ≠ k)) from rfl, ← List.map_set] at r3
      walk_at "q"
      exact q _ _ p3 (g12.trans0 g3) r3
abbrev s_at_hand : Stmt := topS 37
abbrev N_at_hand : List Str := ["net", "world", "channel", "present"]
theorem sc_at_hand : FnScope N_at_hand ["net", "world", "channel"] (defScope s_at_hand) := ⟨rfl, rfl, rfl, by decide +kernel, rfl, by decide +kernel, by decide +kernel⟩
theorem c_at_hand {C f : Addr} {fd : FuncData} (F : FnP K "at_hand" s_at_hand f fd) (hm : mg "at_hand" = some (.ref f)) (B : Blt mg) (cs : Cst K mg) (nt : NtC K mg C) : Cal P w K mg base 1 "at_hand" ["net", "world", "channel"] (sp_hand K C) := by
  refine cal_of F hm sc_at_hand (fun _ _ _ _ _ _ _ us hl => match us, hl with | [_, _, _], _ => rfl) (fun vs H Q E h => ?_) (fun cdv A outer s H vs Q E hr h => ?_)
  · obtain ⟨_, _, _, _, _, _, _, _, rfl, _⟩ := h
    rfl
  · obtain ⟨G, a, M, v, b, W, c, BB, rfl, eG, hN, ok, hv, wok, hc, q⟩ := h
    have nd := sc_at_hand.nd
    refine ⟨_, [some _, some _, some _, none], ((pss_cons (ps_set (i := 3) nd rfl (Or.inl rfl) (pe_ix (ix_seqK (K := K) rfl) (pe_ix (ix_seqK (K := K) rfl) (pv 1) pe_int (fun _ _ => rfl)) (pv 2) (fun _ _ => rfl)))
      (pss_one (ps_ret (pe_ifExp (pt_cmpR (op_inB (K := K) rfl (hu65 hr)) (pe_ix (ix_seqK (K := K) rfl) (pe_ix (ix_seqK (K := K) rfl) (pe_fldK (K := K) rfl (pv 0)) (pv 2) (fun _ _ => rfl)) pe_int (fun _ _ => rfl)) (pe_gref (by rfl) cs.ORDERED) (by with_unfolding_all rfl)) (pe_slice (sl_anyK (K := K) rfl) (pv 3) po_none (po_some pe_int)) (pv 3)))))), rfl, ?_⟩
    walk_at "q"
    refine q_ixRS hv (sqD_seq b _) eG (atI_nat (j := 2) rfl) (fun v1 h1 => ?_)
    walk_at "q"
    refine q_ixRS h1 (sqD_seq b _) eG (wok.at2 hc b) (fun v2 h2 => ?_)
    walk_at "q"
    rename_i vc hvc
    refine q_ixRT hvc (by walk_at "ex") (MN.chan hc) (fun v3 h3 => ?_)
    walk_at "q"
    refine q_ixRT h3 (by walk_at "ex") (atI_nat (j := 3) rfl) (fun v4 h4 => ?_)
    walk_at "q"
    refine q_inT h4 (cs.ordered G) (by walk_at "ex") (kind_shp (by rw [← kindM_at hc]; exact kind_mem ok hc)) shp_ord.1 ?_
    walk_at "q"
    have eh : hand M W c = if ordd M.C[c].k then (rowM W c).take 1 else rowM W c := by
      unfold hand
      rw [kindM_at hc]
    refine q_ifb (fun h => ?_) (fun h => ?_)
    · rw [if_pos (show ordd M.C[c].k = true from h)] at eh
      walk_at "q"
      refine q_slTo (k := 1) (b := b) h2 (by walk_at "ex") (fun G2 H2 p2 g2 r2 => ?_)
      walk_at "q"
      refine q G2 H2 _ g2 ?_
      rw [eh, rowMD, List.map_take]
      exact r2
    · rw [if_neg (show ¬ ordd M.C[c].k = true by rw [show ordd M.C[c].k = false from h]; decide)] at eh
      walk_at "q"
      refine q G _ _ (Gro.refl (by walk_at "ex")) ?_
      rw [eh]
      exact h2
end
end Cw

set_option maxHeartbeats 4000000
namespace Cw
open PySem PySem.Spec PyProof.Rows L2
section
variable {P : Program} {w : World} {K : PySem.W.Frag} {mg : Str → Option Value} {base : Heap}
abbrev s_present_rows : Stmt := topS 40
abbrev N_present_rows : List Str := ["world", "row", "message"]
theorem sc_present_rows : FnScope N_present_rows ["world"] (defScope s_present_rows) := ⟨rfl, rfl, rfl, by decide +kernel, rfl, by decide +kernel, by decide +kernel⟩
theorem c_present_rows {f : Addr} {fd : FuncData} (F : FnP K "present_rows" s_present_rows f fd) (hm : mg "present_rows" = some (.ref f)) (B : Blt mg) : Cal P w K mg base 1 "present_rows" ["world"] (sp_prows K) := by
  refine cal_of F hm sc_present_rows (fun _ _ _ _ _ _ _ us hl => match us, hl with | [_], _ => rfl) (fun vs H Q E h => ?_) (fun cdv A outer s H vs Q E hr h => ?_)
  · obtain ⟨_, _, _, _, rfl, _⟩ := h
    rfl
  · obtain ⟨G, v, b, W, rfl, eG, hv, hl, hb, q⟩ := h
    have nd := sc_present_rows.nd
    refine ⟨_, [some _, none, none], ((pss_one (ps_ret (pe_callTy (call_tupK (K := K) rfl) (by rfl) B.tuple_ bo_tuple (pa_cons (pe_lc (own := [("row", 1)]) rfl nd (pi_seqK (K := K) rfl (pe_ix (ix_seqK (K := K) rfl) (pv 0) pe_int (fun _ _ => rfl))) (blkOk_by (N := N_present_rows) (sc := defScope s_present_rows) (by decide +kernel)) (fun _ _ _ _ _ => (pg_name (i := 1) nd rfl (by first | exact Or.inl rfl | exact Or.inr rfl))) (fun _ _ _ _ _ => pts_nil) (fun _ _ _ _ _ => (pe_callTy (call_tupK (K := K) rfl) (by rfl) B.tuple_ bo_tuple (pa_cons (pe_lc (own := [("message", 2)]) rfl nd (pi_seqK (K := K) rfl (pv 1)) (blkOk_by (by kernel_rfl)) (fun _ _ _ _ _ => (pg_name (i := 2) nd rfl (by first | exact Or.inl rfl | exact Or.inr rfl))) (fun _ _ _ _ _ => pts_nil) (fun _ _ _ _ _ => (pe_callTy (call_tupK (K := K) rfl) (by rfl) B.tuple_ bo_tuple (pa_cons (pv 2) pa_nil)))) pa_nil)))) pa_nil))))), rfl, ?_⟩
    cases b
    · skip
      walk_at "q"
      refine q_lcL ?_
      walk_at "q"
      refine q_ixRS hv (sqD_seq false _) eG (atI_nat (j := 2) rfl) (fun v1 h1 => ?_)
      walk_at "q"
      refine q_fmL (h := rowMD false) (f := fun r => some (rowMD true r)) h1 eG (by omega) (fun i r u G' H' hr' gr ru C N yes no => ?_) (fun G1 H1 D g1 hD r1 => ?_)
      · have w1 := gr.w
        walk_at "q"
        refine ⟨rfl, ?_⟩
        walk_at "q"
        refine q_lcL ?_
        walk_at "q"
        refine q_fmL (h := msgD false) (f := fun m => some (msgD true m)) ru w1 (by have := hb r (List.mem_of_getElem? hr'); omega) (fun j m u2 G3 H3 hm2 gr3 ru2 C2 N2 yes2 no2 => ?_) (fun G3 H3 D3 g3 hD3 r3 => ?_)
        · have w3 := gr3.w
          walk_at "q"
          refine ⟨rfl, ?_⟩
          walk_at "q"
          refine q_tupRS ru2 (sqD_seq false _) w3 (fun G4 H4 p4 g4 r4 => ?_)
          exact yes2 _ _ _ _ rfl g4 r4
        · walk_at "q"
          refine q_tupRS r3 (.inl rfl) g3.w (fun G4 H4 p4 g4 r4 => ?_)
          rw [fm_map] at r4
          exact yes _ _ _ _ rfl (g3.trans0 g4) r4
      · walk_at "q"
        refine q_tupRS r1 (.inl rfl) g1.w (fun G2 H2 p2 g2 r2 => ?_)
        rw [fm_map] at r2
        walk_at "q"
        exact q _ _ p2 (g1.trans0 g2) r2
    · skip
      walk_at "q"
      refine q_lcT ?_
      walk_at "q"
      refine q_ixRS hv (sqD_seq true _) eG (atI_nat (j := 2) rfl) (fun v1 h1 => ?_)
      walk_at "q"
      refine q_fmT (h := rowMD true) (f := fun r => some (rowMD true r)) h1 eG (by omega) (fun i r u G' H' hr' gr ru C N yes no => ?_) (fun G1 H1 D g1 hD r1 => ?_)
      · have w1 := gr.w
        walk_at "q"
        refine ⟨rfl, ?_⟩
        walk_at "q"
        refine q_lcT ?_
        walk_at "q"
        refine q_fmT (h := msgD true) (f := fun m => some (msgD true m)) ru w1 (by have := hb r (List.mem_of_getElem? hr'); omega) (fun j m u2 G3 H3 hm2 gr3 ru2 C2 N2 yes2 no2 => ?_) (fun G3 H3 D3 g3 hD3 r3 => ?_)
        · have w3 := gr3.w
          walk_at "q"
          refine ⟨rfl, ?_⟩
          walk_at "q"
          refine q_tupRS ru2 (sqD_seq true _) w3 (fun G4 H4 p4 g4 r4 => ?_)
          exact yes2 _ _ _ _ rfl g4 r4
        · walk_at "q"
          refine q_tupRS r3 (.inl rfl) g3.w (fun G4 H4 p4 g4 r4 => ?_)
          rw [fm_map] at r4
          exact yes _ _ _ _ rfl (g3.trans0 g4) r4
      · walk_at "q"
        refine q_tupRS r1 (.inl rfl) g1.w (fun G2 H2 p2 g2 r2 => ?_)
        rw [fm_map] at r2
        walk_at "q"
        exact q _ _ p2 (g1.trans0 g2) r2
abbrev s_losses : Stmt := topS 36
abbrev N_losses : List Str := ["net", "world", "channel", "k", "_"]
theorem sc_losses : FnScope N_losses ["net", "world", "channel"] (defScope s_losses) := ⟨rfl, rfl, rfl, by decide +kernel, rfl, by decide +kernel, by decide +kernel⟩
theorem c_losses {C f : Addr} {fd : FuncData} (F : FnP K "losses" s_losses f fd) (hm : mg "losses" = some (.ref f)) (B : Blt mg) (cs : Cst K mg) (nt : NtC K mg C) (C_at_hand : Cal P w K mg base 1 "at_hand" ["net", "world", "channel"] (sp_hand K C)) : Cal P w K mg base 2 "losses" ["net", "world", "channel"] (sp_losses K C) := by
  refine cal_of F hm sc_losses (fun _ _ _ _ _ _ _ us hl => match us, hl with | [_, _, _], _ => rfl) (fun vs H Q E h => ?_) (fun cdv A outer s H vs Q E hr h => ?_)
  · obtain ⟨_, _, _, _, _, _, _, _, rfl, _⟩ := h
    rfl
  · obtain ⟨G, a, M, v, b, W, c, BB, rfl, eG, hN, ok, hv, wok, hB, hc, q⟩ := h
    have nd := sc_losses.nd
    refine ⟨_, [some _, some _, some _, none, none], ((pss_cons (ps_if (pt_cmpR (op_niB (K := K) rfl (hu65 hr)) (pe_ix (ix_seqK (K := K) rfl) (pe_ix (ix_seqK (K := K) rfl) (pe_fldK (K := K) rfl (pv 0)) (pv 2) (fun _ _ => rfl)) pe_int (fun _ _ => rfl)) (pe_gref (by rfl) cs.LOSSY) (by with_unfolding_all rfl)) (pss_one (ps_ret (pe_lst pa_nil))) pss_nil)
      (pss_one (ps_ret (pe_lc (own := [("k", 3), ("_", 4)]) rfl nd (pi_seqK (K := K) rfl (pe_callC C_at_hand (hr.mono (by omega)) (by rfl) (pa_cons (pv 0) (pa_cons (pv 1) (pa_cons (pv 2) pa_nil))))) (blkOk_by (N := N_losses) (sc := defScope s_losses) (by decide +kernel)) (fun _ _ _ _ _ => (pg_seqK (K := K) (n := 2) rfl rfl (pgs_cons (pg_name (i := 3) nd rfl (by first | exact Or.inl rfl | exact Or.inr rfl)) (pgs_cons (pg_name (i := 4) nd rfl (by first | exact Or.inl rfl | exact Or.inr rfl)) pgs_nil)))) (fun _ _ _ _ _ => pts_nil) (fun _ _ _ _ _ => (pe_tup (pa_cons pe_str (pa_cons (pv 2) (pa_cons (pv 3) pa_nil)))))))))), rfl, ?_⟩
    walk_at "q"
    rename_i vc hvc
    refine q_ixRT hvc (by walk_at "ex") (MN.chan hc) (fun v3 h3 => ?_)
    walk_at "q"
    refine q_ixRT h3 (by walk_at "ex") (atI_nat (j := 3) rfl) (fun v4 h4 => ?_)
    walk_at "q"
    refine q_niT h4 (cs.lossy G) (by walk_at "ex") (kind_shp (by rw [← kindM_at hc]; exact kind_mem ok hc)) shp_los.1 ?_
    walk_at "q"
    have el : lossesM M W c = if lossd M.C[c].k then (hand M W c).map (fun m => .lose c m.1) else [] := by
      unfold lossesM
      rw [kindM_at hc]
    refine q_ifb (fun h => ?_) (fun h => ?_)
    · have h0 : lossd M.C[c].k = false := by simpa using (show (!lossd M.C[c].k) = true from h)
      rw [if_neg (by rw [h0]; decide)] at el
      walk_at "q"
      rename_i p hp
      refine q _ _ p (Gro.new (by walk_at "ex") hp) ?_
      rw [el]
      exact .lst upd_same .nil
    · have h0 : lossd M.C[c].k = true := by simpa using (show (!lossd M.C[c].k) = false from h)
      rw [if_pos h0] at el
      walk_at "q"
      cases b
      · skip
        refine q_lcL ?_
        walk_at "q"
        refine ⟨G, a, M, v, false, W, c, BB, rfl, by walk_at "ex", hN, ok, hv, wok, hc, fun G2 H2 u2 g2 r2 => ?_⟩
        have w2 := g2.w
        refine q_fmL (h := msgD false) (f := fun m => some (Deed.lose c m.1).d) r2 w2 (by have := hand_len M W c; have := wok.row c; omega) (fun i m u G' H' hm' gr ru C N yes no => ?_) (fun G1 H1 D g1 hD r1 => ?_)
        · have w1 := gr.w
          refine q_gSeq ru (sqD_seq false _) w1 rfl (fun us hus => ?_)
          obtain ⟨u1, u3, rfl, e1, e3⟩ := rps2 hus
          obtain rfl := rp_nD e1
          walk_at "q"
          refine ⟨rfl, ?_⟩
          walk_at "q"
          rename_i p hp
          exact yes _ _ _ _ rfl (Gro.new w1 hp) (.tup (.inl (.inl upd_same)) (.cons (.str _) (.cons (.int _) (.cons (.int _) .nil))))
        · walk_at "q"
          rw [fm_map] at r1
          refine q _ _ D (((Gro.up eG (by walk_at "ex")).trans0 g2).trans0 g1) ?_
          rw [el, List.map_map]
          exact r1
      · skip
        refine q_lcT ?_
        walk_at "q"
        refine ⟨G, a, M, v, true, W, c, BB, rfl, by walk_at "ex", hN, ok, hv, wok, hc, fun G2 H2 u2 g2 r2 => ?_⟩
        have w2 := g2.w
        refine q_fmT (h := msgD true) (f := fun m => some (Deed.lose c m.1).d) r2 w2 (by have := hand_len M W c; have := wok.row c; omega) (fun i m u G' H' hm' gr ru C N yes no => ?_) (fun G1 H1 D g1 hD r1 => ?_)
        · have w1 := gr.w
          refine q_gSeq ru (sqD_seq true _) w1 rfl (fun us hus => ?_)
          obtain ⟨u1, u3, rfl, e1, e3⟩ := rps2 hus
          obtain rfl := rp_nD e1
          walk_at "q"
          refine ⟨rfl, ?_⟩
          walk_at "q"
          rename_i p hp
          exact yes _ _ _ _ rfl (Gro.new w1 hp) (.tup (.inl (.inl upd_same)) (.cons (.str _) (.cons (.int _) (.cons (.int _) .nil))))
        · walk_at "q"
          rw [fm_map] at r1
          refine q _ _ D (((Gro.up eG (by walk_at "ex")).trans0 g2).trans0 g1) ?_
          rw [el, List.map_map]
          exact r1
abbrev s_rule_deeds : Stmt := topS 35
abbrev N_rule_deeds : List Str := ["net", "world", "rule", "process", "state", "act", "_", "k", "token"]
theorem sc_rule_deeds : FnScope N_rule_deeds ["net", "world", "rule"] (defScope s_rule_deeds) := ⟨rfl, rfl, rfl, by decide +kernel, rfl, by decide +kernel, by decide +kernel⟩
theorem c_rule_deeds {C f : Addr} {fd : FuncData} (F : FnP K "rule_deeds" s_rule_deeds f fd) (hm : mg "rule_deeds" = some (.ref f)) (B : Blt mg) (nt : NtC K mg C) (C_at_hand : Cal P w K mg base 1 "at_hand" ["net", "world", "channel"] (sp_hand K C)) : Cal P w K mg base 2 "rule_deeds" ["net", "world", "rule"] (sp_rdeeds K C) := by
  refine cal_of F hm sc_rule_deeds (fun _ _ _ _ _ _ _ us hl => match us, hl with | [_, _, _], _ => rfl) (fun vs H Q E h => ?_) (fun cdv A outer s H vs Q E hr h => ?_)
  · obtain ⟨_, _, _, _, _, _, _, _, rfl, _⟩ := h
    rfl
  · obtain ⟨G, a, M, v, b, W, r, BB, rfl, eG, hN, ok, hv, wok, hB, hrl, q⟩ := h
    have nd := sc_rule_deeds.nd
    refine ⟨_, [some _, some _, some _, none, none, none, none, none, none], ((pss_cons (ps_asg (pe_ix (ix_seqK (K := K) rfl) (pe_fldK (K := K) rfl (pv 0)) (pv 2) (fun _ _ => rfl)) (pg_seqK (K := K) (n := 4) rfl rfl (pgs_cons (pg_name (i := 3) nd rfl (by first | exact Or.inl rfl | exact Or.inr rfl)) (pgs_cons (pg_name (i := 4) nd rfl (by first | exact Or.inl rfl | exact Or.inr rfl)) (pgs_cons (pg_name (i := 5) nd rfl (Or.inr rfl)) (pgs_cons (pg_name (i := 6) nd rfl (by first | exact Or.inl rfl | exact Or.inr rfl)) pgs_nil))))))
      (pss_cons (ps_if (pt_cmpR (op_neK (K := K) rfl (hu64 hr)) (pe_ix (ix_seqK (K := K) rfl) (pe_ix (ix_seqK (K := K) rfl) (pv 1) pe_int (fun _ _ => rfl)) (pv 3) (fun _ _ => rfl)) (pv 4) (nomark _)) (pss_one (ps_ret (pe_lst pa_nil))) pss_nil)
      (pss_cons (ps_if (pt_cmpR (op_neK (K := K) rfl (hu64 hr)) (pe_ix (ix_seqK (K := K) rfl) (pv 5) pe_int (fun _ _ => rfl)) pe_str (nomark _)) (pss_one (ps_ret (pe_lst (pa_cons (pe_tup (pa_cons pe_str (pa_cons (pv 2) pa_nil))) pa_nil)))) pss_nil)
      (pss_one (ps_ret (pe_lc (own := [("k", 7), ("token", 8)]) rfl nd (pi_seqK (K := K) rfl (pe_callC C_at_hand (hr.mono (by omega)) (by rfl) (pa_cons (pv 0) (pa_cons (pv 1) (pa_cons (pe_ix (ix_seqK (K := K) rfl) (pv 5) pe_int (fun _ _ => rfl)) pa_nil))))) (blkOk_by (N := N_rule_deeds) (sc := defScope s_rule_deeds) (by decide +kernel)) (fun _ _ _ _ _ => (pg_seqK (K := K) (n := 2) rfl rfl (pgs_cons (pg_name (i := 7) nd rfl (by first | exact Or.inl rfl | exact Or.inr rfl)) (pgs_cons (pg_name (i := 8) nd rfl (by first | exact Or.inl rfl | exact Or.inr rfl)) pgs_nil)))) (fun _ _ _ _ _ => (pts_one (pt_cmpR (op_eqK (K := K) rfl (hu64 hr)) (pv 8) (pe_ix (ix_seqK (K := K) rfl) (pv 5) pe_int (fun _ _ => rfl)) (nomark _)))) (fun _ _ _ _ _ => (pe_tup (pa_cons pe_str (pa_cons (pv 2) (pa_cons (pv 7) pa_nil)))))))))))), rfl, ?_⟩
    walk_at "q"
    rename_i vc hvc
    refine q_ixRT hvc (by walk_at "ex") (MN.rule hrl) (fun v3 h3 => ?_)
    refine q_gSeq h3 (.inr rfl) (by walk_at "ex") rfl (fun us hus => ?_)
    obtain ⟨u1, u2, u3, u4, rfl, h1, h2, h5, h6⟩ := rps4 hus
    obtain rfl := rp_nD h1
    obtain rfl := rp_nD h2
    obtain ⟨hp, hcc⟩ := ok.ru _ (List.getElem_mem hrl)
    have hps : M.R[r].p < W.s.length := by rw [wok.ls]; exact hp
    have er : ruleM M W r = if W.s[M.R[r].p]? = some M.R[r].s then (match M.R[r].a with
      | .take c k => takesM M W r c k
      | _ => [.act r]) else [] := by
      unfold ruleM
      rw [List.getElem?_eq_getElem hrl] <;> rfl
    walk_at "q"
    refine q_ixRS hv (sqD_seq b _) (by walk_at "ex") (atI_nat (j := 0) rfl) (fun v7 h7 => ?_)
    walk_at "q"
    refine q_ixRS h7 (sqD_seq b _) (by walk_at "ex") (at_map hps) (fun v8 h8 => ?_)
    obtain rfl := rp_nD h8
    walk_at "q"
    refine q_ifnd (fun h => ?_) (fun h => ?_)
    · rw [if_neg (by rw [List.getElem?_eq_getElem hps]; intro z; exact h (by have := Option.some.inj z; omega))] at er
      walk_at "q"
      rename_i p hp
      refine q _ _ p (Gro.new (by walk_at "ex") hp) ?_
      rw [er]
      exact .lst upd_same .nil
    · have h' : W.s[M.R[r].p] = M.R[r].s := by omega
      rw [if_pos (by rw [List.getElem?_eq_getElem hps, h'])] at er
      walk_at "q"
      generalize ea : M.R[r].a = ac at er h5 hcc
      cases ac with
      | do_ =>
        have er2 : ruleM M W r = [.act r] := er
        refine q_ixRT h5 (by walk_at "ex") (atI_nat (j := 0) rfl) (fun v9 h9 => ?_)
        cases h9
        walk_at "q"
        rename_i p1 hp1 p2 hp2
        refine q _ _ p2 ((Gro.new (by walk_at "ex") hp1).trans0 (Gro.new (Gro.new (by walk_at "ex") hp1).w hp2)) ?_
        rw [er2]
        exact .lst upd_same (.cons (.tup (.inl (.inl (upd_old upd_same ((Gro.new (by walk_at "ex") hp1).w.back hp2)))) (.cons (.str _) (.cons (.int _) .nil))) .nil)
      | send c k =>
        have er2 : ruleM M W r = [.act r] := er
        refine q_ixRT h5 (by walk_at "ex") (atI_nat (j := 0) rfl) (fun v9 h9 => ?_)
        cases h9
        walk_at "q"
        rename_i p1 hp1 p2 hp2
        refine q _ _ p2 ((Gro.new (by walk_at "ex") hp1).trans0 (Gro.new (Gro.new (by walk_at "ex") hp1).w hp2)) ?_
        rw [er2]
        exact .lst upd_same (.cons (.tup (.inl (.inl (upd_old upd_same ((Gro.new (by walk_at "ex") hp1).w.back hp2)))) (.cons (.str _) (.cons (.int _) .nil))) .nil)
      | take c k =>
        have er2 : ruleM M W r = takesM M W r c k := er
        have hcl := hcc c k (.inr rfl)
        refine q_ixRT h5 (by walk_at "ex") (atI_nat (j := 0) rfl) (fun v9 h9 => ?_)
        cases h9
        walk_at "q"
        cases b
        · skip
          refine q_lcL ?_
          walk_at "q"
          refine q_ixRT h5 (by walk_at "ex") (atI_nat (j := 1) rfl) (fun v9 h9 => ?_)
          cases h9
          walk_at "q"
          refine ⟨G, a, M, v, false, W, c, BB, rfl, by walk_at "ex", hN, ok, hv, wok, hcl, fun G2 H2 u2 g2 r2 => ?_⟩
          have w2 := g2.w
          refine q_fmL (h := msgD false) (f := fun m => if decide (m.2 = k) then some (Deed.take r m.1).d else none) r2 w2 (by have := hand_len M W c; have := wok.row c; omega) (fun i m u G' H' hm' gr ru C N yes no => ?_) (fun G1 H1 D g1 hD r1 => ?_)
          · have w1 := gr.w
            refine q_gSeq ru (sqD_seq false _) w1 rfl (fun us hus => ?_)
            obtain ⟨u1, u3, rfl, e1, e3⟩ := rps2 hus
            obtain rfl := rp_nD e1
            obtain rfl := rp_nD e3
            walk_at "q"
            refine ⟨rfl, ?_⟩
            walk_at "q"
            refine q_ixRT (h5.mono (g2.g.trans gr.g)) w1 (atI_nat (j := 2) rfl) (fun v10 h10 => ?_)
            cases h10
            walk_at "q"
            refine q_ifd (fun h => ?_) (fun h => ?_)
            · have hk : m.2 = k := by omega
              walk_at "q"
              rename_i p hp
              exact yes _ _ _ _ (by rw [hk]; simp; rfl) (Gro.new w1 hp) (.tup (.inl (.inl upd_same)) (.cons (.str _) (.cons (.int _) (.cons (.int _) .nil))))
            · walk_at "q"
              exact no _ _ (by rw [if_neg]; simp; omega) (Gro.refl w1)
          · walk_at "q"
            rw [fm_filt] at r1
            refine q _ _ D (((Gro.up eG (by walk_at "ex")).trans0 g2).trans0 g1) ?_
            rw [er2, takesM, List.map_map]
            exact r1
        · skip
          refine q_lcT ?_
          walk_at "q"
          refine q_ixRT h5 (by walk_at "ex") (atI_nat (j := 1) rfl) (fun v9 h9 => ?_)
          cases h9
          walk_at "q"
          refine ⟨G, a, M, v, true, W, c, BB, rfl, by walk_at "ex", hN, ok, hv, wok, hcl, fun G2 H2 u2 g2 r2 => ?_⟩
          have w2 := g2.w
          refine q_fmT (h := msgD true) (f := fun m => if decide (m.2 = k) then some (Deed.take r m.1).d else none) r2 w2 (by have := hand_len M W c; have := wok.row c; omega) (fun i m u G' H' hm' gr ru C N yes no => ?_) (fun G1 H1 D g1 hD r1 => ?_)
          · have w1 := gr.w
            refine q_gSeq ru (sqD_seq true _) w1 rfl (fun us hus => ?_)
            obtain ⟨u1, u3, rfl, e1, e3⟩ := rps2 hus
            obtain rfl := rp_nD e1
            obtain rfl := rp_nD e3
            walk_at "q"
            refine ⟨rfl, ?_⟩
            walk_at "q"
            refine q_ixRT (h5.mono (g2.g.trans gr.g)) w1 (atI_nat (j := 2) rfl) (fun v10 h10 => ?_)
            cases h10
            walk_at "q"
            refine q_ifd (fun h => ?_) (fun h => ?_)
            · have hk : m.2 = k := by omega
              walk_at "q"
              rename_i p hp
              exact yes _ _ _ _ (by rw [hk]; simp; rfl) (Gro.new w1 hp) (.tup (.inl (.inl upd_same)) (.cons (.str _) (.cons (.int _) (.cons (.int _) .nil))))
            · walk_at "q"
              exact no _ _ (by rw [if_neg]; simp; omega) (Gro.refl w1)
          · walk_at "q"
            rw [fm_filt] at r1
            refine q _ _ D (((Gro.up eG (by walk_at "ex")).trans0 g2).trans0 g1) ?_
            rw [er2, takesM, List.map_map]
            exact r1
end
end Cw

set_option maxHeartbeats 4000000
namespace Cw
open PySem PySem.Spec PyProof.Rows L2
section
variable {P : Program} {w : World} {K : PySem.W.Frag} {mg : Str → Option Value} {base : Heap}
abbrev s_can_be_done : Stmt := topS 39
abbrev N_can_be_done : List Str := ["net", "world", "deed"]
theorem sc_can_be_done : FnScope N_can_be_done ["net", "world", "deed"] (defScope s_can_be_done) := ⟨rfl, rfl, rfl, by decide +kernel, rfl, by decide +kernel, by decide +kernel⟩
theorem c_can {C f : Addr} {fd : FuncData} (F : FnP K "can_be_done" s_can_be_done f fd) (hm : mg "can_be_done" = some (.ref f)) (B : Blt mg) (C_is_deed : Cal P w K mg base 4 "is_deed" ["net", "deed"] (spNetB K C isDeedD)) (C_rule_deeds : Cal P w K mg base 2 "rule_deeds" ["net", "world", "rule"] (sp_rdeeds K C)) (C_losses : Cal P w K mg base 2 "losses" ["net", "world", "channel"] (sp_losses K C)) :
    Cal P w K mg base 5 "can_be_done" ["net", "world", "deed"] (sp_can K C) := by
  refine cal_of F hm sc_can_be_done (fun _ _ _ _ _ _ _ us hl => match us, hl with | [_, _, _], _ => rfl) (fun vs H Q E h => ?_) (fun cdv A outer s H vs Q E hr h => ?_)
  · obtain ⟨_, _, _, _, _, _, _, _, _, rfl, _⟩ := h
    rfl
  · obtain ⟨G, a, M, v, b, W, BB, u, d, rfl, eG, hN, ok, nok, hv, wok, hB, hv2, hd, q⟩ := h
    have nd := sc_can_be_done.nd
    refine ⟨_, [some _, some _, some _], ((pss_cons (ps_if (pt_not (pt_val (pe_callC C_is_deed (hr.mono (by omega)) (by rfl) (pa_cons (pv 0) (pa_cons (pv 2) pa_nil))))) (pss_one (ps_ret pe_bl)) pss_nil)
      (pss_cons (ps_if (pt_cmpR (op_eqK (K := K) rfl (hu64 hr)) (pe_ix (ix_seqK (K := K) rfl) (pv 2) pe_int (fun _ _ => rfl)) pe_str (nomark _)) (pss_one (ps_ret (pe_cmpR (op_inB (K := K) rfl (hu65 hr)) (pe_callTy (call_tupK (K := K) rfl) (by rfl) B.tuple_ bo_tuple (pa_cons (pv 2) pa_nil)) (pe_callC C_losses (hr.mono (by omega)) (by rfl) (pa_cons (pv 0) (pa_cons (pv 1) (pa_cons (pe_ix (ix_seqK (K := K) rfl) (pv 2) pe_int (fun _ _ => rfl)) pa_nil)))) (by with_unfolding_all rfl)))) pss_nil)
      (pss_one (ps_ret (pe_cmpR (op_inB (K := K) rfl (hu65 hr)) (pe_callTy (call_tupK (K := K) rfl) (by rfl) B.tuple_ bo_tuple (pa_cons (pv 2) pa_nil)) (pe_callC C_rule_deeds (hr.mono (by omega)) (by rfl) (pa_cons (pv 0) (pa_cons (pv 1) (pa_cons (pe_ix (ix_seqK (K := K) rfl) (pv 2) pe_int (fun _ _ => rfl)) pa_nil)))) (by with_unfolding_all rfl))))))), rfl, ?_⟩
    walk_at "q"
    refine ⟨G, a, M.N, u, d, rfl, eG, hN, nok, hv2, hd, fun H0 e0 => ?_⟩
    have e1 := eG.trans e0
    walk_at "q"
    refine q_ifb (fun h => ?_) (fun h => ?_)
    · walk_at "q"
      exact q_bt' (by rw [canD, show isDeedD M.N d = false by simpa using h, Bool.false_and]) (q _ e0)
    · have h' : isDeedD M.N d = true := by simpa using h
      walk_at "q"
      rcases deed_is h' with ⟨x0, k, r, hk, hs, hl⟩ | ⟨x0, k, r, hk, hs, hl⟩
      · have h0 := shp_mem hs hd x0 (by simp)
        refine q_ixRS hv2 hs e1 (atI_nat (j := 0) rfl) (fun u0 hu0 => ?_)
        walk_at "q"
        refine q_eqR hu0 (.str _) e1 h0 (shp_word (by decide +kernel)) ?_
        walk_at "q"
        refine q_ifFa hl ?_
        walk_at "q"
        refine q_tupRS hv2 hs (by walk_at "ex") (fun G1 H1 p1 g1 r1 => ?_)
        walk_at "q"
        refine q_ixRS (hv2.mono g1.g) hs g1.w (atI_nat (j := 1) rfl) (fun u1 hu1 => ?_)
        cases hu1
        walk_at "q"
        refine ⟨G1, a, M, v, b, W, k, BB, rfl, g1.w, hN.mono g1.g, ok, hv.mono g1.g, wok, hB, by simpa [MN.N] using hk, fun G2 H2 p2 g2 r2 => ?_⟩
        walk_at "q"
        refine q_inL (r1.mono g2.g) r2 g2.w (shp_tup hs hd) (shp_deeds _ (by have := rule_len wok k; omega)) ?_
        refine q_bt' ?_ (q _ (Ex.trans (by walk_at "ex") (g1.ex.trans g2.ex)))
        rw [canD, h', Bool.true_and, show atD d 0 = x0 from Seq.at hs 0, show atD d 1 = .int k from Seq.at hs 1, Seq.it hs, hl]
        rfl
      · have h0 := shp_mem hs hd x0 (by simp)
        refine q_ixRS hv2 hs e1 (atI_nat (j := 0) rfl) (fun u0 hu0 => ?_)
        walk_at "q"
        refine q_eqR hu0 (.str _) e1 h0 (shp_word (by decide +kernel)) ?_
        walk_at "q"
        refine q_ifTr hl ?_
        walk_at "q"
        refine q_tupRS hv2 hs (by walk_at "ex") (fun G1 H1 p1 g1 r1 => ?_)
        walk_at "q"
        refine q_ixRS (hv2.mono g1.g) hs g1.w (atI_nat (j := 1) rfl) (fun u1 hu1 => ?_)
        cases hu1
        walk_at "q"
        refine ⟨G1, a, M, v, b, W, k, BB, rfl, g1.w, hN.mono g1.g, ok, hv.mono g1.g, wok, hB, by simpa [MN.N] using hk, fun G2 H2 p2 g2 r2 => ?_⟩
        walk_at "q"
        refine q_inL (r1.mono g2.g) r2 g2.w (shp_tup hs hd) (shp_deeds _ (by have := losses_len wok k; omega)) ?_
        refine q_bt' ?_ (q _ (Ex.trans (by walk_at "ex") (g1.ex.trans g2.ex)))
        rw [canD, h', Bool.true_and, show atD d 0 = x0 from Seq.at hs 0, show atD d 1 = .int k from Seq.at hs 1, Seq.it hs, hl]
        rfl
end
end Cw

set_option maxHeartbeats 4000000
namespace Cw
open PySem PySem.Spec PyProof.Rows L2
section
variable {P : Program} {w : World} {K : PySem.W.Frag} {mg : Str → Option Value} {base : Heap}
abbrev s_done : Stmt := topS 38
abbrev N_done : List Str := ["net", "world", "deed", "states", "sent", "present", "process", "_", "act", "then", "messages"]
theorem sc_done : FnScope N_done ["net", "world", "deed"] (defScope s_done) := ⟨rfl, rfl, rfl, by decide +kernel, rfl, by decide +kernel, by decide +kernel⟩
theorem fn_done {C CS f : Addr} {fd : FuncData} (F : FnP K "done" s_done f fd) (B : Blt mg) (nt : NtC K mg C) (T_BadStep : Xn K mg "BadStep" "at" CS) (C_can_be_done : Cal P w K mg base 5 "can_be_done" ["net", "world", "deed"] (sp_can K C)) (C_present_rows : Cal P w K mg base 1 "present_rows" ["world"] (sp_prows K))
    (C_without : Cal P w K mg base 2 "without" ["present", "channel", "gone"] (sp_without K)) (C_changed : Cal P w K mg base 1 "changed" ["row", "at", "value"] (sp_changed K)) : FnOk P w K mg base (L2.CX P w) 6 f fd ["net", "world", "deed"] (sp_done K C CS) := by
  refine fnokX_of F sc_done (fun vs H Q E h => ?_) (fun cdv A outer s H vs Q E hr h => ?_)
  · obtain ⟨_, _, _, _, _, _, _, _, _, rfl, _⟩ := h
    rfl
  · obtain ⟨G, a, M, v, b, W, BB, u, d, rfl, eG, hN, ok, nok, hv, wok, hB, hv2, hd, yes, no⟩ := h
    have nd := sc_done.nd
    refine ⟨_, [some _, some _, some _, none, none, none, none, none, none, none, none], ((pss_cons (ps_if (pt_not (pt_val (pe_callC C_can_be_done (hr.mono (by omega)) (by rfl) (pa_cons (pv 0) (pa_cons (pv 1) (pa_cons (pv 2) pa_nil)))))) (pss_one (ps_raiseX rfl T_BadStep hr (takes_of rfl rfl rfl rfl) (pa_cons pe_int pa_nil) (by rfl))) pss_nil)
      (pss_cons (ps_par3 (i := 3) (j := 4) (l := 5) rfl nd rfl rfl rfl (by decide) (by decide) (by decide) rfl rfl rfl (pa_cons (pe_callTy (call_tupK (K := K) rfl) (by rfl) B.tuple_ bo_tuple (pa_cons (pe_ix (ix_seqK (K := K) rfl) (pv 1) pe_int (fun _ _ => rfl)) pa_nil)) (pa_cons (pe_callTy (call_tupK (K := K) rfl) (by rfl) B.tuple_ bo_tuple (pa_cons (pe_ix (ix_seqK (K := K) rfl) (pv 1) pe_int (fun _ _ => rfl)) pa_nil)) (pa_cons (pe_callC C_present_rows (hr.mono (by omega)) (by rfl) (pa_cons (pv 1) pa_nil)) pa_nil))) (by rfl))
      (pss_cons (ps_if (pt_cmpR (op_eqK (K := K) rfl (hu64 hr)) (pe_ix (ix_seqK (K := K) rfl) (pv 2) pe_int (fun _ _ => rfl)) pe_str (nomark _)) (pss_one (ps_ret (pe_tup (pa_cons (pv 3) (pa_cons (pv 4) (pa_cons (pe_callC C_without (hr.mono (by omega)) (by rfl) (pa_cons (pv 5) (pa_cons (pe_ix (ix_seqK (K := K) rfl) (pv 2) pe_int (fun _ _ => rfl)) (pa_cons (pe_ix (ix_seqK (K := K) rfl) (pv 2) pe_int (fun _ _ => rfl)) pa_nil)))) pa_nil)))))) pss_nil)
      (pss_cons (ps_asg (pe_ix (ix_seqK (K := K) rfl) (pe_fldK (K := K) rfl (pv 0)) (pe_ix (ix_seqK (K := K) rfl) (pv 2) pe_int (fun _ _ => rfl)) (fun _ _ => rfl)) (pg_seqK (K := K) (n := 4) rfl rfl (pgs_cons (pg_name (i := 6) nd rfl (by first | exact Or.inl rfl | exact Or.inr rfl)) (pgs_cons (pg_name (i := 7) nd rfl (by first | exact Or.inl rfl | exact Or.inr rfl)) (pgs_cons (pg_name (i := 8) nd rfl (by first | exact Or.inl rfl | exact Or.inr rfl)) (pgs_cons (pg_name (i := 9) nd rfl (by first | exact Or.inl rfl | exact Or.inr rfl)) pgs_nil))))))
      (pss_cons (ps_set (i := 3) nd rfl (Or.inl rfl) (pe_callC C_changed (hr.mono (by omega)) (by rfl) (pa_cons (pv 3) (pa_cons (pv 6) (pa_cons (pv 9) pa_nil)))))
      (pss_cons (ps_if (pt_cmpR (op_eqK (K := K) rfl (hu64 hr)) (pe_ix (ix_seqK (K := K) rfl) (pv 8) pe_int (fun _ _ => rfl)) pe_str (nomark _)) (pss_cons (ps_set (i := 10) nd rfl (Or.inl rfl) (pe_tup (pa_starK (K := K) rfl (pe_ix (ix_seqK (K := K) rfl) (pv 5) (pe_ix (ix_seqK (K := K) rfl) (pv 8) pe_int (fun _ _ => rfl)) (fun _ _ => rfl)) (pa_cons (pe_tup (pa_cons (pe_ix (ix_seqK (K := K) rfl) (pv 4) (pe_ix (ix_seqK (K := K) rfl) (pv 8) pe_int (fun _ _ => rfl)) (fun _ _ => rfl)) (pa_cons (pe_ix (ix_seqK (K := K) rfl) (pv 8) pe_int (fun _ _ => rfl)) pa_nil))) pa_nil))))
      (pss_one (ps_ret (pe_tup (pa_cons (pv 3) (pa_cons (pe_callC C_changed (hr.mono (by omega)) (by rfl) (pa_cons (pv 4) (pa_cons (pe_ix (ix_seqK (K := K) rfl) (pv 8) pe_int (fun _ _ => rfl)) (pa_cons (pe_op (op_addK (K := K) rfl) (pe_ix (ix_seqK (K := K) rfl) (pv 4) (pe_ix (ix_seqK (K := K) rfl) (pv 8) pe_int (fun _ _ => rfl)) (fun _ _ => rfl)) pe_int) pa_nil)))) (pa_cons (pe_callC C_changed (hr.mono (by omega)) (by rfl) (pa_cons (pv 5) (pa_cons (pe_ix (ix_seqK (K := K) rfl) (pv 8) pe_int (fun _ _ => rfl)) (pa_cons (pv 10) pa_nil)))) pa_nil))))))) pss_nil)
      (pss_cut (ps_if (pt_cmpR (op_eqK (K := K) rfl (hu64 hr)) (pe_ix (ix_seqK (K := K) rfl) (pv 8) pe_int (fun _ _ => rfl)) pe_str (nomark _)) (pss_one (ps_set (i := 5) nd rfl (Or.inl rfl) (pe_callC C_without (hr.mono (by omega)) (by rfl) (pa_cons (pv 5) (pa_cons (pe_ix (ix_seqK (K := K) rfl) (pv 8) pe_int (fun _ _ => rfl)) (pa_cons (pe_ix (ix_seqK (K := K) rfl) (pv 2) pe_int (fun _ _ => rfl)) pa_nil)))))) pss_nil)
      (pss_one (ps_ret (pe_tup (pa_cons (pv 3) (pa_cons (pv 4) (pa_cons (pv 5) pa_nil)))))))))))))), rfl, ?_⟩
    walk_at "q"
    refine ⟨G, a, M, v, b, W, BB, u, d, rfl, eG, hN, ok, nok, hv, wok, by omega, hv2, hd, fun H0 e0 => ?_⟩
    walk_at "q"
    refine q_ifb (fun h => ?_) (fun h => ?_)
    · walk_at "q"
      exact fun dd hdd => no (by simpa using h) _ dd e0 hdd
    have h' : canD M W d = true := by simpa using h
    have yes' := yes h'
    clear yes no h
    have e1 := eG.trans e0
    have lsW : W.s.length ≤ 1000 := by rw [wok.ls]; have := ok.lp; omega
    have lnW : W.n.length ≤ 1000 := by rw [wok.ln]; have := ok.lc; omega
    have lpW : W.p.length ≤ 1000 := by rw [wok.lp]; have := ok.lc; omega
    walk_at "q"
    refine q_ixRS hv (sqD_seq b _) e1 (atI_nat (j := 0) rfl) (fun v1 h1 => ?_)
    walk_at "q"
    refine q_tupRS h1 (sqD_seq b _) e1 (fun G1 H1 p1 g1 r1 => ?_)
    walk_at "q"
    refine q_ixRS (hv.mono g1.g) (sqD_seq b _) g1.w (atI_nat (j := 1) rfl) (fun v2 h2 => ?_)
    walk_at "q"
    refine q_tupRS h2 (sqD_seq b _) g1.w (fun G2 H2 p2 g2 r2 => ?_)
    walk_at "q"
    refine ⟨G2, v, b, W, rfl, g2.w, hv.mono (g1.g.trans g2.g), lpW, fun r hr => by have := wok.b r hr; omega, fun G3 H3 p3 g3 r3 => ?_⟩
    walk_at "q"
    have r1' := r1.mono (g2.g.trans g3.g)
    have r2' := r2.mono g3.g
    have gA := (Gro.up eG e0).trans0 ((g1.trans0 g2).trans0 g3)
    have w4 := gA.w
    have hv4 := hv2.mono gA.g
    have hN4 := hN.mono gA.g
    rcases deed_form2 (bA h').1 with ⟨r, hr, hs, hnt⟩ | ⟨r, k, c, t, hr, hs, hat⟩ | ⟨c, k, hc, hs⟩
    · skip
      refine q_ixRS hv4 hs w4 (atI_nat (j := 0) rfl) (fun u0 hu0 => ?_)
      cases hu0
      walk_at "q"
      rename_i vr hvr
      refine q_ixRS hv4 hs w4 (atI_nat (j := 1) rfl) (fun u1 hu1 => ?_)
      obtain rfl := rp_nD hu1
      refine q_ixRT hvr w4 (MN.rule hr) (fun u2 hu2 => ?_)
      refine q_gSeq hu2 (.inr rfl) w4 rfl (fun us hus => ?_)
      obtain ⟨y1, y2, y3, y4, rfl, k1, k2, k3, k4⟩ := rps4 hus
      obtain rfl := rp_nD k1
      obtain ⟨hp, hcc⟩ := ok.ru _ (List.getElem_mem hr)
      have hps : M.R[r].p < W.s.length := by rw [wok.ls]; exact hp
      walk_at "q"
      refine ⟨G3, .ref p1, y4, M.R[r].p, W.s.map nD, nD M.R[r].t, rfl, w4, r1', by rw [List.length_map]; exact hps, by rw [List.length_map]; exact lsW, k4, fun G5 H5 p5 g5 r5 => ?_⟩
      rw [← List.map_set] at r5
      have w5 := g5.w
      walk_at "q"
      generalize ea : M.R[r].a = ac at k3 hcc
      have ea' : M.R[r]?.map Rul.a = some ac := by rw [List.getElem?_eq_getElem hr]; show some M.R[r].a = _; rw [ea]
      cases ac with
      | do_ =>
        have es : stepM M W (.act r) = ⟨W.s.set M.R[r].p M.R[r].t, W.n, W.p⟩ := by simp [stepM, hr, ea]
        refine q_ixRT (k3.mono g5.g) w5 (atI_nat (j := 0) rfl) (fun u5 hu5 => ?_)
        cases hu5
        walk_at "q"
        refine q_cutId ?_
        walk_at "q"
        refine q_ixRT (k3.mono g5.g) w5 (atI_nat (j := 0) rfl) (fun u5 hu5 => ?_)
        cases hu5
        walk_at "q"
        rename_i p6 hp6
        have g6 := Gro.new (o := .tup [.ref p5, .ref p2, .ref p3]) g5.w hp6
        refine yes' (.act r) _ _ p6 hs ((gA.trans0 g5).trans0 g6) ?_
        rw [es]
        exact .tup (.inl (.inl upd_same)) (.cons (r5.mono g6.g) (.cons (r2'.mono (g5.g.trans g6.g)) (.cons (r3.mono (g5.g.trans g6.g)) .nil)))
      | send c k =>
        have hcl := hcc c k (.inl rfl)
        have hcn : c < W.n.length := by rw [wok.ln]; exact hcl
        have hcp : c < W.p.length := by rw [wok.lp]; exact hcl
        have egn : W.n.getD c 0 = W.n[c] := by rw [List.getD_eq_getElem?_getD, List.getElem?_eq_getElem hcn] <;> rfl
        have es : stepM M W (.act r) = ⟨W.s.set M.R[r].p M.R[r].t, W.n.set c (W.n[c] + 1), W.p.set c (rowM W c ++ [(W.n[c], k)])⟩ := by
          rw [← egn]
          simp [stepM, hr, ea]
        refine q_ixRT (k3.mono g5.g) w5 (atI_nat (j := 0) rfl) (fun u5 hu5 => ?_)
        cases hu5
        walk_at "q"
        refine q_ixRT (k3.mono g5.g) w5 (atI_nat (j := 1) rfl) (fun u5 hu5 => ?_)
        cases hu5
        walk_at "q"
        refine q_ixRT (r3.mono g5.g) w5 (wok.at2 hcl true) (fun u6 hu6 => ?_)
        obtain ⟨l6, vs6, rfl, _, _⟩ := rp_tup hu6
        refine q_starAt (b := true) hu6 w5 (fun xs6 hx6 => ?_)
        walk_at "q"
        refine q_ixRT (k3.mono g5.g) w5 (atI_nat (j := 1) rfl) (fun u5 hu5 => ?_)
        cases hu5
        walk_at "q"
        refine q_ixRT (r2'.mono g5.g) w5 (at_map hcn) (fun u7 hu7 => ?_)
        obtain rfl := rp_nD hu7
        walk_at "q"
        refine q_ixRT (k3.mono g5.g) w5 (atI_nat (j := 2) rfl) (fun u5 hu5 => ?_)
        cases hu5
        walk_at "q"
        rename_i p6 hp6
        have g6 := Gro.new (o := .tup [.int (W.n[c] : Int), .int (k : Int)]) w5 hp6
        refine ⟨?_, fun p7 hp7 => ?_⟩
        · rw [List.length_append, hx6.len, List.length_map]
          have := wok.row c
          exact Nat.le_trans (show _ ≤ 2000 by simp only [List.length_cons, List.length_nil]; omega) (by decide)
        have g7 := Gro.new (o := .tup (xs6 ++ [.ref p6])) g6.w hp7
        have r7 : Rp K (L2.upd (L2.upd G5 p6 (.tup [.int (W.n[c] : Int), .int (k : Int)])) p7 (.tup (xs6 ++ [.ref p6]))) (.ref p7) (rowMD true (rowM W c ++ [(W.n[c], k)])) := by
          rw [rowMD, List.map_append]
          exact .tup (.inl (.inl upd_same)) ((hx6.mono (g6.g.trans g7.g)).app (Rps.one (Rp.mono g7.g (.tup (.inl (.inl upd_same)) (.cons (.int _) (.cons (.int _) .nil))))))
        have e57 := g6.g.trans g7.g
        have w7 := g7.w
        have gB := ((gA.trans0 g5).trans0 g6).trans0 g7
        generalize L2.upd (L2.upd G5 p6 (.tup [.int (W.n[c] : Int), .int (k : Int)])) p7 (.tup (xs6 ++ [.ref p6])) = G7 at r7 e57 w7 gB
        generalize L2.upd (L2.upd H5 p6 (.tup [.int (W.n[c] : Int), .int (k : Int)])) p7 (.tup (xs6 ++ [.ref p6])) = H7 at w7 gB ⊢
        clear g6 g7 hp6 hp7
        have k37 := k3.mono (g5.g.trans e57)
        have r27 := r2'.mono (g5.g.trans e57)
        have r37 := r3.mono (g5.g.trans e57)
        walk_at "q"
        refine q_ixRT k37 w7 (atI_nat (j := 1) rfl) (fun u5 hu5 => ?_)
        cases hu5
        walk_at "q"
        refine q_ixRT k37 w7 (atI_nat (j := 1) rfl) (fun u5 hu5 => ?_)
        cases hu5
        refine q_ixRT r27 w7 (at_map hcn) (fun u7 hu7 => ?_)
        obtain rfl := rp_nD hu7
        walk_at "q"
        refine ⟨G7, .ref p2, .int ((W.n[c] : Int) + 1), c, W.n.map nD, nD (W.n[c] + 1), rfl, w7, r27, by rw [List.length_map]; exact hcn, by rw [List.length_map]; exact lnW, .int _, fun G8 H8 p8 g8 r8 => ?_⟩
        rw [← List.map_set] at r8
        have w8 := g8.w
        walk_at "q"
        refine q_ixRT (k37.mono g8.g) w8 (atI_nat (j := 1) rfl) (fun u5 hu5 => ?_)
        cases hu5
        walk_at "q"
        refine ⟨G8, .ref p3, .ref p7, c, W.p.map (rowMD true), _, rfl, w8, r37.mono g8.g, by rw [List.length_map]; exact hcp, by rw [List.length_map]; exact lpW, r7.mono g8.g, fun G9 H9 p9 g9 r9 => ?_⟩
        rw [← List.map_set] at r9
        walk_at "q"
        rename_i p6 hp6
        have g6 := Gro.new (o := .tup [.ref p5, .ref p8, .ref p9]) g9.w hp6
        refine yes' (.act r) _ _ p6 hs (((gB.trans0 g8).trans0 g9).trans0 g6) ?_
        rw [es]
        exact .tup (.inl (.inl upd_same)) (.cons (r5.mono (e57.trans (g8.g.trans (g9.g.trans g6.g)))) (.cons (r8.mono (g9.g.trans g6.g)) (.cons (r9.mono g6.g) .nil)))
      | take c k => exact absurd ea' (hnt c k)
    · skip
      refine q_ixRS hv4 hs w4 (atI_nat (j := 0) rfl) (fun u0 hu0 => ?_)
      cases hu0
      walk_at "q"
      rename_i vr hvr
      refine q_ixRS hv4 hs w4 (atI_nat (j := 1) rfl) (fun u1 hu1 => ?_)
      obtain rfl := rp_nD hu1
      refine q_ixRT hvr w4 (MN.rule hr) (fun u2 hu2 => ?_)
      refine q_gSeq hu2 (.inr rfl) w4 rfl (fun us hus => ?_)
      obtain ⟨y1, y2, y3, y4, rfl, k1, k2, k3, k4⟩ := rps4 hus
      obtain rfl := rp_nD k1
      obtain ⟨hp, hcc⟩ := ok.ru _ (List.getElem_mem hr)
      have hps : M.R[r].p < W.s.length := by rw [wok.ls]; exact hp
      walk_at "q"
      refine ⟨G3, .ref p1, y4, M.R[r].p, W.s.map nD, nD M.R[r].t, rfl, w4, r1', by rw [List.length_map]; exact hps, by rw [List.length_map]; exact lsW, k4, fun G5 H5 p5 g5 r5 => ?_⟩
      rw [← List.map_set] at r5
      have w5 := g5.w
      walk_at "q"
      generalize ea : M.R[r].a = ac at k3 hcc
      have ea' : ac = .take c t := by
        rw [List.getElem?_eq_getElem hr] at hat
        exact ea.symm.trans (Option.some.inj hat)
      subst ea'
      have es : stepM M W (.take r k) = ⟨W.s.set M.R[r].p M.R[r].t, W.n, gone W c k⟩ := by simp [stepM, hr, ea]
      have hcl := hcc c t (.inr rfl)
      refine q_ixRT (k3.mono g5.g) w5 (atI_nat (j := 0) rfl) (fun u5 hu5 => ?_)
      cases hu5
      walk_at "q"
      refine q_cutId ?_
      walk_at "q"
      refine q_ixRT (k3.mono g5.g) w5 (atI_nat (j := 0) rfl) (fun u5 hu5 => ?_)
      cases hu5
      walk_at "q"
      refine q_ixRT (k3.mono g5.g) w5 (atI_nat (j := 1) rfl) (fun u5 hu5 => ?_)
      cases hu5
      walk_at "q"
      refine q_ixRS (hv4.mono g5.g) hs w5 (atI_nat (j := 2) rfl) (fun u6 hu6 => ?_)
      obtain rfl := rp_nD hu6
      walk_at "q"
      refine ⟨G5, .ref p3, c, k, W.p, rowM W c, rfl, w5, r3.mono g5.g, wok.rowAt hcl, by have := wok.row c; omega, lpW, fun G8 H8 p8 g8 r8 => ?_⟩
      walk_at "q"
      rename_i p6 hp6
      have g6 := Gro.new (o := .tup [.ref p5, .ref p2, .ref p8]) g8.w hp6
      refine yes' (.take r k) _ _ p6 hs (((gA.trans0 g5).trans0 g8).trans0 g6) ?_
      rw [es]
      exact .tup (.inl (.inl upd_same)) (.cons (r5.mono (g8.g.trans g6.g)) (.cons (r2'.mono (g5.g.trans (g8.g.trans g6.g))) (.cons (r8.mono g6.g) .nil)))
    · skip
      refine q_ixRS hv4 hs w4 (atI_nat (j := 0) rfl) (fun u0 hu0 => ?_)
      cases hu0
      walk_at "q"
      refine q_ixRS hv4 hs w4 (atI_nat (j := 1) rfl) (fun u1 hu1 => ?_)
      obtain rfl := rp_nD hu1
      walk_at "q"
      refine q_ixRS hv4 hs w4 (atI_nat (j := 2) rfl) (fun u2 hu2 => ?_)
      obtain rfl := rp_nD hu2
      walk_at "q"
      refine ⟨G3, .ref p3, c, k, W.p, rowM W c, rfl, w4, r3, wok.rowAt hc, by have := wok.row c; omega, lpW, fun G5 H5 p5 g5 r5 => ?_⟩
      have es : stepM M W (.lose c k) = ⟨W.s, W.n, gone W c k⟩ := rfl
      walk_at "q"
      rename_i p6 hp6
      have g6 := Gro.new (o := .tup [.ref p1, .ref p2, .ref p5]) g5.w hp6
      refine yes' (.lose c k) _ _ p6 hs ((gA.trans0 g5).trans0 g6) ?_
      rw [es]
      exact .tup (.inl (.inl upd_same)) (.cons (r1'.mono (g5.g.trans g6.g)) (.cons (r2'.mono (g5.g.trans g6.g)) (.cons (r5.mono g6.g) .nil)))
theorem c_done {C CS f : Addr} {fd : FuncData} (F : FnP K "done" s_done f fd) (hm : mg "done" = some (.ref f)) (ok : FnOk P w K mg base (L2.CX P w) 6 f fd ["net", "world", "deed"] (sp_done K C CS)) : CalX P w K mg base 6 "done" ["net", "world", "deed"] (sp_done K C CS) :=
  calX_fn F hm ok (fun _ _ _ _ _ _ _ us hl => match us, hl with | [_, _, _], _ => rfl)
theorem ck_done {C CS f : Addr} {fd : FuncData} (F : FnP K "done" s_done f fd) (hm : mg "done" = some (.ref f)) (ok : FnOk P w K mg base (L2.CX P w) 6 f fd ["net", "world", "deed"] (sp_done K C CS)) : CalXK P w K mg base (L2.CX P w) 6 "done" ["net", "world", "deed"] ["deed", "world", "net"] [2, 1, 0] (sp_done K C CS) :=
  calK_fn F hm ok (fun _ _ _ _ _ _ _ us hl => match us, hl with | [_, _, _], _ => rfl)
end
end Cw

set_option maxHeartbeats 4000000
namespace Cw
open PySem PySem.Spec PyProof.Rows L2
section
variable {P : Program} {w : World} {K : PySem.W.Frag} {mg : Str → Option Value} {base : Heap}
abbrev s__law_mixed : Stmt := topS 57
abbrev N__law_mixed : List Str := ["number", "turn", "many", "prime", "once", "twice"]
theorem sc__law_mixed : FnScope N__law_mixed ["number", "turn", "many"] (defScope s__law_mixed) := ⟨rfl, rfl, rfl, by decide +kernel, rfl, by decide +kernel, by decide +kernel⟩
theorem c_mixed {f : Addr} {fd : FuncData} (F : FnP K "_law_mixed" s__law_mixed f fd) (hm : mg "_law_mixed" = some (.ref f)) (B : Blt mg) : Cal P w K mg base 1 "_law_mixed" ["number", "turn", "many"] sp_mixed := by
  refine cal_of F hm sc__law_mixed (fun _ _ _ _ _ _ _ us hl => match us, hl with | [_, _, _], _ => rfl) (fun vs H Q E h => ?_) (fun cdv A outer s H vs Q E hr h => ?_)
  · obtain ⟨_, _, _, rfl, _⟩ := h
    rfl
  · obtain ⟨n, t, m, rfl, m0, m1, q⟩ := h
    have nd := sc__law_mixed.nd
    refine ⟨_, [some _, some _, some _, none, none, none], ((pss_cons (ps_set (i := 3) nd rfl (Or.inl rfl) pe_int)
      (pss_cons (ps_set (i := 4) nd rfl (Or.inl rfl) (pe_op op_mod (pe_callTy call_intA (by rfl) B.int_ bo_int (pa_cons (pe_op (op_addK (K := K) rfl) (pe_op (op_addK (K := K) rfl) (pe_op (op_mulB (K := K) rfl) (pv 0) pe_int) (pe_op (op_mulB (K := K) rfl) (pv 1) pe_int)) pe_int) pa_nil)) (pv 3)))
      (pss_cons (ps_set (i := 5) nd rfl (Or.inl rfl) (pe_op op_mod (pe_op (op_mulB (K := K) rfl) (pe_callTy call_intA (by rfl) B.int_ bo_int (pa_cons (pe_op (op_addK (K := K) rfl) (pe_op (op_mulB (K := K) rfl) (pv 4) (pv 4)) (pv 1)) pa_nil)) pe_int) (pv 3)))
      (pss_one (ps_ret (pe_op op_mod (pe_op op_fdiv (pv 5) pe_int) (pv 2)))))))), rfl, ?_⟩
    walk_at "q"
    exact q _ (Int.emod_nonneg _ (by omega)) (Int.emod_lt_of_pos _ m0)
abbrev s__law_take : Stmt := topS 59
abbrev N__law_take : List Str := ["pool", "many", "drawn"]
theorem sc__law_take : FnScope N__law_take ["pool", "many"] (defScope s__law_take) := ⟨rfl, rfl, rfl, by decide +kernel, rfl, by decide +kernel, by decide +kernel⟩
theorem c_take {f : Addr} {fd : FuncData} (F : FnP K "_law_take" s__law_take f fd) (hm : mg "_law_take" = some (.ref f)) (B : Blt mg) (C__law_mixed : Cal P w K mg base 1 "_law_mixed" ["number", "turn", "many"] sp_mixed) : Cal P w K mg base 2 "_law_take" ["pool", "many"] (sp_take K) := by
  refine cal_of F hm sc__law_take (fun _ _ _ _ _ _ _ us hl => match us, hl with | [_, _], _ => rfl) (fun vs H Q E h => ?_) (fun cdv A outer s H vs Q E hr h => ?_)
  · obtain ⟨_, _, _, _, rfl, _⟩ := h
    rfl
  · obtain ⟨G, b, many, kvs, rfl, eG, gb, hb, ⟨c, a, r, l, s, sd, t, ns, rfl, hS, ha⟩, ⟨m0, m1⟩, q⟩ := h
    have nd := sc__law_take.nd
    refine ⟨_, [some _, some _, none], ((pss_cons (ps_dput (hu1 hr) (pv 0) pe_str (pe_op (op_addK (K := K) rfl) (pe_dget (hu1 hr) (pv 0) pe_str (fun _ _ => rfl)) pe_int) rfl)
      (pss_cut (ps_if (PW.pt (pw_and (pt_cmpR (op_eqK (K := K) rfl (hu64 hr)) (pe_dget (hu1 hr) (pv 0) pe_str (fun _ _ => rfl)) pe_int (nomark _)) (pw_and1 (pt_cmpR op_lt (pe_dget (hu1 hr) (pv 0) pe_str (fun _ _ => rfl)) (pe_callB (call_lenK (K := K) rfl) (by rfl) B.len_ bo_len (pa_cons (pe_dget (hu1 hr) (pv 0) pe_str (fun _ _ => rfl)) pa_nil)) (nomark _))))) (pss_cons (ps_dput (hu1 hr) (pv 0) pe_str (pe_ix (ix_seqK (K := K) rfl) (pe_dget (hu1 hr) (pv 0) pe_str (fun _ _ => rfl)) (pe_dget (hu1 hr) (pv 0) pe_str (fun _ _ => rfl)) (fun _ _ => rfl)) rfl)
      (pss_cons (ps_dput (hu1 hr) (pv 0) pe_str (pe_op (op_addK (K := K) rfl) (pe_dget (hu1 hr) (pv 0) pe_str (fun _ _ => rfl)) pe_int) rfl)
      (pss_cons (ps_dput (hu1 hr) (pv 0) pe_str (pe_cmpR op_lt (pe_dget (hu1 hr) (pv 0) pe_str (fun _ _ => rfl)) (pe_op op_pow pe_int pe_int) (nomark _)) rfl)
      (pss_one (ps_dput (hu1 hr) (pv 0) pe_str (pe_ix (ix_seqK (K := K) rfl) (pe_lst (pa_cons pe_int (pa_cons pe_int pa_nil))) (pe_callTy call_intA (by rfl) B.int_ bo_int (pa_cons (pe_dget (hu1 hr) (pv 0) pe_str (fun _ _ => rfl)) pa_nil)) (fun _ _ => rfl)) rfl))))) pss_nil)
      (pss_cons (ps_if (pt_cmpR (op_eqK (K := K) rfl (hu64 hr)) (pe_dget (hu1 hr) (pv 0) pe_str (fun _ _ => rfl)) pe_int (nomark _)) (pss_one (ps_ret (pe_callC C__law_mixed (hr.mono (by omega)) (by rfl) (pa_cons (pe_dget (hu1 hr) (pv 0) pe_str (fun _ _ => rfl)) (pa_cons (pe_dget (hu1 hr) (pv 0) pe_str (fun _ _ => rfl)) (pa_cons (pv 1) pa_nil)))))) pss_nil)
      (pss_cons (ps_dput (hu1 hr) (pv 0) pe_str (pe_op op_sub (pe_dget (hu1 hr) (pv 0) pe_str (fun _ _ => rfl)) pe_int) rfl)
      (pss_cons (ps_if (pt_val (pe_dget (hu1 hr) (pv 0) pe_str (fun _ _ => rfl))) (pss_one (ps_ret (pe_callC C__law_mixed (hr.mono (by omega)) (by rfl) (pa_cons (pe_dget (hu1 hr) (pv 0) pe_str (fun _ _ => rfl)) (pa_cons (pe_dget (hu1 hr) (pv 0) pe_str (fun _ _ => rfl)) (pa_cons (pv 1) pa_nil)))))) pss_nil)
      (pss_cons (ps_set (i := 2) nd rfl (Or.inl rfl) (pe_op op_mod (pe_callTy call_intA (by rfl) B.int_ bo_int (pa_cons (pe_dget (hu1 hr) (pv 0) pe_str (fun _ _ => rfl)) pa_nil)) (pv 1)))
      (pss_cons (ps_dput (hu1 hr) (pv 0) pe_str (pe_op op_fdiv (pe_dget (hu1 hr) (pv 0) pe_str (fun _ _ => rfl)) (pv 1)) rfl)
      (pss_cut (ps_if (pt_cmpR (op_eqK (K := K) rfl (hu64 hr)) (pe_dget (hu1 hr) (pv 0) pe_str (fun _ _ => rfl)) pe_int (nomark _)) (pss_one (ps_dput (hu1 hr) (pv 0) pe_str pe_int rfl)) pss_nil)
      (pss_one (ps_ret (pv 2)))))))))))), rfl, ?_⟩
    rw [← upd_id hb]
    walk_at "q"
    refine q_cut (M := fun σ' H' => ∃ H0 a r l s, σ' = [some (.ref b), some (.int many), none] ∧ H' = L2.upd H0 b (.dK (poolK c a r l s sd (t + 1))) ∧ Mut b H H0 ∧ 0 ≤ a) ?_ ?_
    · walk_at "q"
      refine q_ifd (fun h1 => ?_) (fun h1 => ?_)
      · walk_at "q"
        refine q_lenC (Ex.sl (Ex.mut eG gb) hS) ?_
        walk_at "q"
        refine q_ifd (fun h2 => ?_) (fun h2 => ?_)
        · walk_at "q"
          refine q_ixInts (Ex.sl (Ex.mut eG gb) hS) ha (by simpa using h2) (fun cell _ => ?_)
          walk_at "q"
          rename_i p hp
          refine q_dgA (upd_old upd_same hp) vSmall ?_
          walk_at "q"
          refine q_ixIf upd_same (fun u hu => ?_)
          obtain ⟨k, rfl⟩ : ∃ k : Int, u = .int k := by
            rcases hu with rfl | rfl
            · exact ⟨_, rfl⟩
            · exact ⟨_, rfl⟩
          walk_at "q"
          refine q_dpA (kvs' := poolK c (a + 1) cell k (decide (cell < 10 ^ 18)) sd (t + 1)) (upd_old upd_same hp) (by rfl) (show (7 : Nat) ≤ 1000 by decide) ?_
          exact ⟨_, _, _, _, _, rfl, rfl, ((Mut.refl b H).upd).new hp, by omega⟩
        · walk_at "q"
          exact ⟨H, a, r, l, s, rfl, rfl, Mut.refl b H, ha⟩
      · walk_at "q"
        exact ⟨H, a, r, l, s, rfl, rfl, Mut.refl b H, ha⟩
    · rintro _ _ ⟨H0, a, r, l, s, rfl, rfl, mu, ha⟩
      have fin : ∀ (x : Int) (a' r' l' : Int) (s' : Bool), 0 ≤ x → x < many → 0 ≤ a' → Q (.int x) (L2.upd H0 b (.dK (poolK c a' r' l' s' sd (t + 1)))) := fun x a' r' l' s' x0 x1 ha' =>
        q x _ _ x0 x1 ⟨c, a', r', l', s', sd, t + 1, ns, rfl, hS, ha'⟩ (Ex.mut (eG.mu gb mu) gb) upd_same (fun y o hy hH => by rw [upd_ne hy]; exact mu y o hy hH)
      walk_at "q"
      refine q_ifd (fun h1 => ?_) (fun h1 => ?_)
      · walk_at "q"
        exact ⟨_, _, _, rfl, m0, m1, fun x x0 x1 => fin x _ _ _ _ x0 x1 ha⟩
      · walk_at "q"
        refine q_ifb (fun h2 => ?_) (fun h2 => ?_)
        · walk_at "q"
          exact ⟨_, _, _, rfl, m0, m1, fun x x0 x1 => fin x _ _ _ _ x0 x1 ha⟩
        · walk_at "q"
          refine q_cutId ?_
          walk_at "q"
          refine q_ifd (fun h3 => ?_) (fun h3 => ?_)
          · walk_at "q"
            exact fin _ _ _ _ _ (Int.emod_nonneg _ (by omega)) (Int.emod_lt_of_pos _ m0) ha
          · walk_at "q"
            exact fin _ _ _ _ _ (Int.emod_nonneg _ (by omega)) (Int.emod_lt_of_pos _ m0) ha
abbrev s__law_pool : Stmt := topS 58
abbrev N__law_pool : List Str := ["script", "seed", "cell", "cells"]
theorem sc__law_pool : FnScope N__law_pool ["script"] (defScope s__law_pool) := ⟨rfl, rfl, rfl, by decide +kernel, rfl, by decide +kernel, by decide +kernel⟩
theorem c_pool {f : Addr} {fd : FuncData} (F : FnP K "_law_pool" s__law_pool f fd) (hm : mg "_law_pool" = some (.ref f)) (B : Blt mg) : Cal P w K mg base 1 "_law_pool" ["script"] (sp_pool K) := by
  refine cal_of F hm sc__law_pool (fun _ _ _ _ _ _ _ us hl => match us, hl with | [_], _ => rfl) (fun vs H Q E h => ?_) (fun cdv A outer s H vs Q E hr h => ?_)
  · obtain ⟨_, _, rfl, _⟩ := h
    rfl
  · obtain ⟨sc, ns, rfl, hS, hl, q⟩ := h
    have nd := sc__law_pool.nd
    refine ⟨_, [some _, none, none, none], ((pss_cons (ps_set (i := 1) nd rfl (Or.inl rfl) pe_int)
      (pss_cons (ps_for PassesOwn.never rfl (pi_seqK (K := K) rfl (pv 0)) (pg_name (i := 2) nd rfl (by first | exact Or.inl rfl | exact Or.inr rfl)) (pss_one (ps_set (i := 1) nd rfl (Or.inl rfl) (pe_op op_mod (pe_callTy call_intA (by rfl) B.int_ bo_int (pa_cons (pe_op (op_addK (K := K) rfl) (pe_op (op_mulB (K := K) rfl) (pv 1) pe_int) (pv 2)) pa_nil)) pe_int))))
      (pss_cons (ps_set (i := 3) nd rfl (Or.inl rfl) (pe_callTy (call_listK (K := K) rfl) (by rfl) B.list_ bo_list (pa_cons (pv 0) pa_nil)))
      (pss_cut (ps_if (PW.pt (pw_and (pt_cmpR op_gt (pe_callB (call_lenK (K := K) rfl) (by rfl) B.len_ bo_len (pa_cons (pv 3) pa_nil)) pe_int (nomark _)) (pw_and1 (pt_cmpR (op_eqK (K := K) rfl (hu64 hr)) (pe_op op_mod (pe_callTy call_intA (by rfl) B.int_ bo_int (pa_cons (pe_ix (ix_seqK (K := K) rfl) (pv 3) pe_int (fun _ _ => rfl)) pa_nil)) pe_int) pe_int (nomark _))))) (pss_one (ps_set (i := 3) nd rfl (Or.inl rfl) (pe_lst pa_nil))) pss_nil)
      (pss_cut (ps_if (pt_cmpR op_gt (pe_callB (call_lenK (K := K) rfl) (by rfl) B.len_ bo_len (pa_cons (pv 3) pa_nil)) pe_int (nomark _)) (pss_one (ps_asg (pe_op op_fdiv (pe_ix (ix_seqK (K := K) rfl) (pv 3) pe_int (fun _ _ => rfl)) pe_int) (pg_sub (pv 3) pe_int set_list))) pss_nil)
      (pss_one (ps_ret (pe_disp (pps_cons pe_str (pv 3) (pps_cons pe_str pe_int (pps_cons pe_str pe_int (pps_cons pe_str pe_int (pps_cons pe_str pe_bl (pps_cons pe_str (pv 1) (pps_cons pe_str pe_int pps_nil))))))) (by rfl) (by rfl) (by simp) (by decide)))))))))), rfl, ?_⟩
    walk_at "q"
    refine q_forL ?_
    walk_at "q"
    refine q_lst_for hS (fun i σ' H' => ∃ (sd : Int) (z : Option V), σ' = [some (.ref sc), some (.int sd), z, none] ∧ H' = H) ⟨7, none, rfl, rfl⟩ ?_ ?_ ?_
    · rintro i σ' H' hi ⟨sd, z, rfl, rfl⟩
      exact hS
    · rintro i x σ' H' hx ⟨sd, z, rfl, rfl⟩
      obtain ⟨n, hn, rfl⟩ : ∃ n, ns[i]? = some n ∧ x = V.int n := by
        rw [List.getElem?_map] at hx
        cases e : ns[i]? with
        | none =>
          rw [e] at hx
          cases hx
        | some n =>
          rw [e] at hx
          exact ⟨n, rfl, (Option.some.inj hx).symm⟩
      walk_at "q"
      exact ⟨_, _, rfl, rfl⟩
    · rintro σ' H' ⟨sd, z, rfl, rfl⟩
      walk_at "q"
      refine ⟨sc, _, rfl, .inl hS, fun p hp => ?_⟩
      walk_at "q"
      have key : ∀ (G1 : Hp) (p1 : Addr) (ms : List Int), Ex H' G1 → G1 p1 = some (.lst (ms.map V.int)) → ∀ b, G1 b = none → Q (.ref b) (L2.upd G1 b (.dK (poolK p1 0 0 0 true sd 0))) := fun G1 p1 ms e1 h1 b hb =>
        q b _ G1 _ e1 (Ex.new hb) hb upd_same ⟨p1, 0, 0, 0, true, sd, 0, ms, rfl, .inl (.inl h1), by decide⟩
      refine q_cut (M := fun σ' H1 => ∃ p1 ms, σ' = [some (.ref sc), some (.int sd), z, some (.ref p1)] ∧ H' p1 = none ∧ Ex H' H1 ∧ H1 p1 = some (.lst (List.map V.int ms)) ∧ ms.length ≤ 1000) ?_ ?_
      · walk_at "q"
        refine q_lenC (.inl (.inl upd_same)) ?_
        walk_at "q"
        refine q_ifd (fun h1 => ?_) (fun h1 => ?_)
        · walk_at "q"
          refine q_ixInts (.inl (.inl upd_same)) (by decide) (by simpa using h1) (fun cell _ => ?_)
          walk_at "q"
          refine q_ifd (fun h2 => ?_) (fun h2 => ?_)
          · walk_at "q"
            rename_i p2 hp2
            exact ⟨p2, [], rfl, (Ex.new hp).back hp2, (Ex.new hp).trans (Ex.new hp2), upd_same, by simp⟩
          · walk_at "q"
            exact ⟨p, ns, rfl, hp, Ex.new hp, upd_same, hl⟩
        · walk_at "q"
          exact ⟨p, ns, rfl, hp, Ex.new hp, upd_same, hl⟩
      · rintro σ' H1 ⟨p1, ms, rfl, hp1, e1, h1, hml⟩
        walk_at "q"
        refine q_cut (M := fun σ' H1 => ∃ ms, σ' = [some (.ref sc), some (.int sd), z, some (.ref p1)] ∧ Ex H' H1 ∧ H1 p1 = some (.lst (List.map V.int ms))) ?_ ?_
        · walk_at "q"
          refine q_lenC (.inl (.inl h1)) ?_
          walk_at "q"
          refine q_ifd (fun h2 => ?_) (fun h2 => ?_)
          · walk_at "q"
            cases ms with
            | nil => exact absurd h2 (by simp)
            | cons m ms =>
              refine q_ixC h1 (v := .int m) (atI_nat (j := 0) rfl) ?_
              walk_at "q"
              rw [← upd_id h1]
              refine q_setU (xs := .int m :: ms.map V.int) (k := 0) (by simp [ixN]) ?_
              exact ⟨(m / 2) :: ms, rfl, Ex.mut e1 hp1, upd_same⟩
          · walk_at "q"
            exact ⟨ms, rfl, e1, h1⟩
        · rintro σ' H1 ⟨ms, rfl, e1, h1⟩
          walk_at "q"
          refine q_disp (fun b hb => ?_)
          walk_at "q"
          refine ⟨upd_same, poolK p1 0 0 0 true sd 0, rfl, (show (7 : Nat) ≤ 15 by decide), ?_⟩
          rw [upd_upd]
          exact key H1 p1 ms e1 h1 b hb
end
end Cw

set_option maxHeartbeats 4000000
namespace Cw
open PySem PySem.Spec PyProof.Rows L2
section
variable {P : Program} {w : World} {K : PySem.W.Frag} {mg : Str → Option Value} {base : Heap}
abbrev s__law_names : Stmt := topS 60
abbrev N__law_names : List Str := ["pool", "many", "letters", "names", "k", "size", "name", "others", "j", "letter", "other"]
theorem sc__law_names : FnScope N__law_names ["pool", "many"] (defScope s__law_names) := ⟨rfl, rfl, rfl, by decide +kernel, rfl, by decide +kernel, by decide +kernel⟩
theorem c_dnames {f : Addr} {fd : FuncData} (F : FnP K "_law_names" s__law_names f fd) (hm : mg "_law_names" = some (.ref f)) (B : Blt mg) (C__law_take : Cal P w K mg base 2 "_law_take" ["pool", "many"] (sp_take K)) : Cal P w K mg base 3 "_law_names" ["pool", "many"] (sp_dnames K) := by
  refine cal_of F hm sc__law_names (fun _ _ _ _ _ _ _ us hl => match us, hl with | [_, _], _ => rfl) (fun vs H Q E h => ?_) (fun cdv A outer s H vs Q E hr h => ?_)
  · obtain ⟨_, _, _, _, rfl, _⟩ := h
    rfl
  · obtain ⟨G, b, kvs, m, rfl, eG, gb, hb, hB, m5, q⟩ := h
    have nd := sc__law_names.nd
    have s0 := Sd.start eG gb hb
    refine ⟨_, [some _, some _, none, none, none, none, none, none, none, none, none], ((pss_cons (ps_set (i := 2) nd rfl (Or.inr rfl) pe_str)
      (pss_cons (ps_set (i := 3) nd rfl (Or.inr rfl) (pe_lst pa_nil))
      (pss_cons (ps_for PassesOwn.never rfl (pi_range1 (by rfl) B.range_ (pa_cons (pv 1) pa_nil)) (pg_name (i := 4) nd rfl (by first | exact Or.inl rfl | exact Or.inr rfl)) (pss_cons (ps_set (i := 5) nd rfl (Or.inl rfl) (pe_ix (ix_seqK (K := K) rfl) (pe_lst (pa_cons pe_int (pa_cons pe_int (pa_cons pe_int (pa_cons (pe_op (op_addK (K := K) rfl) pe_int (pe_callC C__law_take (hr.mono (by omega)) (by rfl) (pa_cons (pv 0) (pa_cons pe_int pa_nil)))) pa_nil))))) (pe_callC C__law_take (hr.mono (by omega)) (by rfl) (pa_cons (pv 0) (pa_cons pe_int pa_nil))) (fun _ _ => rfl)))
      (pss_cons (ps_set (i := 6) nd rfl (Or.inl rfl) (pe_joinK (K := K) rfl pe_str (pe_lc (own := [("j", 8)]) rfl nd (pi_range1 (by rfl) B.range_ (pa_cons (pv 5) pa_nil)) (blkOk_by (N := N__law_names) (sc := defScope s__law_names) (by decide +kernel)) (fun _ _ _ _ _ => (pg_name (i := 8) nd rfl (by first | exact Or.inl rfl | exact Or.inr rfl))) (fun _ _ _ _ _ => pts_nil) (fun _ _ _ _ _ => (pe_ix (ix_seqK (K := K) rfl) (pv 2) (pe_callC C__law_take (hr.mono (by omega)) (by rfl) (pa_cons (pv 0) (pa_cons pe_int pa_nil))) (fun _ _ => rfl))))))
      (pss_cut (ps_if (pt_cmpR (op_inB (K := K) rfl (hu65 hr)) (pv 6) (pv 3) (by with_unfolding_all rfl)) (pss_cons (ps_setLc (i := 7) (own := [("letter", 9)]) rfl nd rfl rfl (sw_true rfl rfl rfl (by decide +kernel)) (pi_seqK (K := K) rfl pe_str) (blkOk_by (N := N__law_names) (sc := defScope s__law_names) (by decide +kernel)) (fun _ _ _ _ _ => (pg_name (i := 9) nd rfl (by first | exact Or.inl rfl | exact Or.inr rfl))) (fun _ _ _ _ _ => pts_nil) (fun _ _ _ _ _ => (pe_op (op_addK (K := K) rfl) pe_str (pv 9))))
      (pss_one (ps_set (i := 6) nd rfl (Or.inl rfl) (pe_ix (ix_seqK (K := K) rfl) (pe_lc (own := [("other", 10)]) rfl nd (pi_seqK (K := K) rfl (pv 7)) (blkOk_by (N := N__law_names) (sc := defScope s__law_names) (by decide +kernel)) (fun _ _ _ _ _ => (pg_name (i := 10) nd rfl (by first | exact Or.inl rfl | exact Or.inr rfl))) (fun _ _ _ _ _ => (pts_one (pt_cmpR (op_niB (K := K) rfl (hu65 hr)) (pv 10) (pv 3) (by with_unfolding_all rfl)))) (fun _ _ _ _ _ => (pv 10))) pe_int (fun _ _ => rfl))))) pss_nil)
      (pss_one (ps_expr (pe_bmK (K := K) rfl PySem.F.plainAttrs_list PySem.F.slot_list_append PySem.F.type_list_append mt_append (pv 3) (pa_cons (pv 6) pa_nil))))))))
      (pss_one (ps_ret (pv 3))))))), rfl, ?_⟩
    walk_at "q"
    rename_i l hl
    have nbl := s0.ne hl
    refine q_rng1 m (by omega) (fun i σ' H' => ∃ z4 z5 z6 z7 z8 z9 z10 zs kvs G', σ' = [some (.ref b), some (.int (m : Int)), some (.str "abcdefghijklmnopqrstuvwxyz"), some (.ref l), z4, z5, z6, z7, z8, z9, z10] ∧ Sd b G H G' H' (.dK kvs) ∧ PoolD K G' kvs ∧ G' l = none ∧ H' l = some (.lst (zs.map V.str)) ∧ zs.length = i ∧ zs.Nodup ∧ (∀ z ∈ zs, isName (.str z) = true)) ⟨none, none, none, none, none, none, none, [], kvs, G, rfl, s0.up (Ex.new hl), hB, eG.back hl, upd_same, rfl, by simp, by simp⟩ ?_ ?_
    · rintro i σ' H' hi ⟨z4, z5, z6, z7, z8, z9, z10, zs, kvs, G', rfl, s1, hB1, gl, hl1, hlen, nod, nam⟩
      have w1 := s1.w
      walk_at "q"
      refine ⟨G', b, 6, kvs, rfl, w1, s1.gb, s1.hb, hB1, by decide, fun r kv2 H2 r0 r1 hB2 e2 hb2 k2 => ?_⟩
      have s2 := s1.take e2 hb2 k2
      have hl2 := k2 _ _ (Ne.symm nbl) hl1
      clear k2
      walk_at "q"
      rename_i p hp
      have nbp := s2.ne hp
      have s3 := s2.up (Ex.new (o := .lst [.int 1, .int 1, .int 2, .int (1 + r)]) hp)
      refine ⟨G', b, 4, kv2, rfl, s3.w, s3.gb, s3.hb, hB2, by decide, fun r4 kv4 H4 r40 r41 hB4 e4 hb4 k4 => ?_⟩
      have s4 := s3.take e4 hb4 k4
      have hl4 := k4 _ _ (Ne.symm nbl) (upd_old hl2 hp)
      refine q_ixLn (xs := [.int 1, .int 1, .int 2, .int (1 + r)]) (.inl (.inl (k4 _ _ (Ne.symm nbp) upd_same))) r40 r41 (fun v hv => ?_)
      obtain ⟨n, rfl, n1, n6⟩ : ∃ n : Nat, v = .int (n : Int) ∧ 1 ≤ n ∧ n ≤ 6 := by
        obtain ⟨r, rfl⟩ := Int.eq_ofNat_of_zero_le r0
        simp only [List.mem_cons, List.mem_nil_iff, or_false] at hv
        rcases hv with rfl | rfl | rfl | rfl
        · exact ⟨1, rfl, by decide, by decide⟩
        · exact ⟨1, rfl, by decide, by decide⟩
        · exact ⟨2, rfl, by decide, by decide⟩
        · exact ⟨1 + r, by rw [show (1 + (r : Int)) = ((1 + r : Nat) : Int) from by omega], by omega, by omega⟩
      clear k4 hp s2 s3 e2 e4 hb2 hb4 hl2 hl1 s1 w1 hB1 hB2
      have w4 := s4.w
      walk_at "q"
      refine ⟨⟨_, rfl⟩, ?_⟩
      walk_at "q"
      refine q_rng_lc n (by omega) (fun D hD => ⟨fun j H' => ∃ (ys : List Str) (kvs : List (Key × V)), Sd b G H G' H' (.dK kvs) ∧ PoolD K G' kvs ∧ H' l = some (.lst (zs.map V.str)) ∧ H' D = some (.lst (ys.map V.str)) ∧ ys.length = j ∧ (∀ y ∈ ys, y.length = 1 ∧ y.cps.toList.all isLetter = true), ?_, ?_, ?_⟩)
      · exact ⟨[], kv4, s4.up (Ex.new hD), hB4, upd_old hl4 hD, upd_same, rfl, by simp⟩
      · rintro j H' hj ⟨ys, kvs, s5, hB5, hl5, hD5, ly, hy⟩
        have nbD := s4.ne hD
        have gD := s4.w.back hD
        walk_at "q"
        refine ⟨rfl, ?_⟩
        walk_at "q"
        refine ⟨G', b, 26, kvs, rfl, s5.w, s5.gb, s5.hb, hB5, by decide, fun r6 kv6 H6 r60 r61 hB6 e6 hb6 k6 => ?_⟩
        have s6 := s5.take e6 hb6 k6
        refine q_ixSm (by decide) r60 r61 (fun c hc => ?_)
        have hD6 := k6 _ _ (Ne.symm nbD) hD5
        have nlD := ne_of_none hl4 hD
        refine ⟨_, hD6, line_lt (by rw [List.length_map]; omega), ys ++ [⟨#[c]⟩], kv6, s6.cell gD (s4.fresh hD) nbD, hB6, upd_mu (k6 _ _ (Ne.symm nbl) hl5) nlD, by rw [List.map_append]; exact upd_same, by rw [List.length_append, ly] <;> rfl, fun y hy' => ?_⟩
        rcases List.mem_append.mp hy' with h | h
        · exact hy y h
        · rw [List.mem_singleton.mp h]
          refine ⟨rfl, ?_⟩
          show ([c].all isLetter) = true
          rw [List.all_cons, List.all_nil, Bool.and_true]
          exact decide_eq_true hc
      · rintro H' ⟨ys, kvs, s5, hB5, hl5, hD5, ly, hy⟩
        have lj := PySem.W.KT.join_ones ys (fun y hy' => (hy y hy').1)
        have aj := join_letters ys (fun y hy' => (hy y hy').2)
        have nm0 : isName (.str (Txt.join (Str.ofString "") ys)) = true := by
          show (decide (1 ≤ (Txt.join (Str.ofString "") ys).length) && decide ((Txt.join (Str.ofString "") ys).length ≤ 6) && (Txt.join (Str.ofString "") ys).cps.toList.all isLetter) = true
          rw [lj, ly, aj, decide_eq_true n1, decide_eq_true n6] <;> rfl
        refine q_join (.inl (.inl hD5)) (by rw [sum_ones fun y hy' => (hy y hy').1, ly, show (Str.ofString "").length = 0 by decide]; omega) ?_
        generalize Txt.join (Str.ofString "") ys = nm at nm0 ⊢
        clear s4 w4 hl4 hB4 hD hD5 ly hy lj aj
        have w5 := s5.w
        have shz := names_shp (zs := zs) (by omega) nam
        walk_at "q"
        refine q_cut (M := fun σ' H' => ∃ nm z7 z9 z10 G2 kvs, σ' = [some (.ref b), some (.int (m : Int)), some (.str "abcdefghijklmnopqrstuvwxyz"), some (.ref l), some (.int (i : Int)), some (.int (n : Int)), some (.str nm), z7, z8, z9, z10] ∧ Sd b G H G2 H' (.dK kvs) ∧ PoolD K G2 kvs ∧ G2 l = none ∧ H' l = some (.lst (zs.map V.str)) ∧ isName (.str nm) = true ∧ nm ∉ zs) ?_ ?_
        · walk_at "q"
          refine q_inL (G := H') (.str nm) (.lst hl5 (strs_rps zs)) (Ex.refl _) (okD_le (name_ok nm0) (by decide)) shz ?_
          walk_at "q"
          rw [any_strs]
          refine q_ifd (fun h1 => ?_) (fun h1 => ?_)
          · walk_at "q"
            refine q_lcC (R := fun i y _ => y = V.str (othN i)) w5 (by decide) (fun _ _ _ _ _ h => h) (fun k c G6 H6 hc g6 C N hC => ?_) (fun D ys G6 H6 g6 hD gD hHD hlys hys => ?_)
            · obtain ⟨hk8, rfl⟩ := oth_at k c hc
              walk_at "q"
              refine ⟨rfl, ?_⟩
              walk_at "q"
              refine .inr (.inr (.inr ⟨_, _, rfl, rfl, ?_⟩))
              exact ⟨show 6 ≤ sizeLine by decide, hC _ G6 _ (Gro.refl g6.w) rfl⟩
            · have eys : ys = (List.range 8).map fun i => V.str (othN i) := by
                apply List.ext_getElem?
                intro k
                by_cases hk : k < 8
                · obtain ⟨y, h2, h3⟩ := hys k hk
                  rw [h2, h3, List.getElem?_map, List.getElem?_range hk]
                  rfl
                · rw [List.getElem?_eq_none (by rw [hlys]; exact Nat.le_of_not_lt hk), List.getElem?_eq_none (by simp; omega)]
              subst eys
              have s6 := s5.gro g6
              have hl6 := g6.ex _ _ hl5
              have hB6 := hB5.mono g6.g
              have gl6 : G6 l = none := g6.n l (by rw [hl5]; exact fun z => nomatch z) gl
              have rD : Rp K H6 (.ref D) (.list ((List.range 8).map fun i => PyData.str (othN i))) := .lst hD (rps_of (by simp) fun k hk => by
                simp only [List.length_range] at hk
                exact ⟨_, by rw [List.getElem?_map, List.getElem?_range hk] <;> rfl, by rw [List.getElem?_range hk]; exact .str _⟩)
              walk_at "q"
              refine q_lcL ?_
              walk_at "q"
              refine q_fmL (G := H6) (h := fun i => PyData.str (othN i)) (f := fun i => if decide (othN i ∈ zs) then none else some (.str (othN i))) rD (Ex.refl _) (by decide) (fun k i u G7 H7 hi7 g7 ru C N yes no => ?_) (fun G7 H7 D7 g7 hD7 r7 => ?_)
              · have hi8 : i < 8 := by
                  have := List.mem_of_getElem? hi7
                  exact List.mem_range.mp this
                obtain rfl : u = V.str (othN i) := rp_str ru
                have hl7 := g7.ex _ _ hl6
                walk_at "q"
                refine ⟨rfl, ?_⟩
                walk_at "q"
                refine q_niL (G := H7) (.str (othN i)) (.lst hl7 (strs_rps zs)) (Ex.refl _) (okD_le (name_ok (oth_name i hi8)) (by decide)) shz ?_
                walk_at "q"
                rw [any_strs]
                refine q_ifnd (fun h2 => ?_) (fun h2 => ?_)
                · walk_at "q"
                  exact yes _ _ _ _ (by rw [if_neg (by rw [decide_eq_false h2]; decide)]) (Gro.refl g7.w) (.str _)
                · walk_at "q"
                  exact no _ _ (by rw [if_pos (decide_eq_true h2)]) (Gro.refl g7.w)
              · have e7 := g7.ex
                obtain ⟨i0, hi0, hn0⟩ := spare (zs := zs) (by omega)
                have hne : ((List.range 8).filterMap fun i => if decide (othN i ∈ zs) = true then none else some (PyData.str (othN i))) ≠ [] := fun e => by
                  have hm : PyData.str (othN i0) ∈ ((List.range 8).filterMap fun i => if decide (othN i ∈ zs) = true then none else some (PyData.str (othN i))) := by
                    rw [List.mem_filterMap]
                    exact ⟨i0, List.mem_range.mpr hi0, by rw [if_neg (by rw [decide_eq_false hn0]; decide)]⟩
                  rw [e] at hm
                  cases hm
                have hall : ∀ d ∈ ((List.range 8).filterMap fun i => if decide (othN i ∈ zs) = true then none else some (PyData.str (othN i))), ∃ z, d = .str z ∧ isName (.str z) = true ∧ z ∉ zs := fun d hd => by
                  obtain ⟨i, hi, he⟩ := List.mem_filterMap.mp hd
                  by_cases hz : othN i ∈ zs
                  · rw [if_pos (decide_eq_true hz)] at he
                    cases he
                  · rw [if_neg (by rw [decide_eq_false hz]; decide)] at he
                    cases he
                    exact ⟨_, rfl, oth_name i (List.mem_range.mp hi), hz⟩
                generalize ((List.range 8).filterMap fun i => if decide (othN i ∈ zs) = true then none else some (PyData.str (othN i))) = es at r7 hne hall
                match es, hne, hall, r7 with
                | [], hne, _, _ => exact absurd rfl hne
                | d :: r, _, hall, r7 =>
                  obtain ⟨z, rfl, hz1, hz2⟩ := hall d (List.mem_cons_self ..)
                  walk_at "q"
                  refine q_ixRL r7 g7.w (atI_nat (j := 0) rfl) (fun u hu => ?_)
                  obtain rfl := rp_str hu
                  exact ⟨z, _, _, _, G6, kvs, rfl, s6.up e7, hB6, gl6, e7 _ _ hl6, hz1, hz2⟩
          · walk_at "q"
            exact ⟨nm, _, _, _, G', kvs, rfl, s5, hB5, gl, hl5, nm0, h1⟩
        · rintro σ' H6 ⟨nm, z7, z9, z10, G6, kvs, rfl, s6, hB6, gl6, hl6, nm1, nm2⟩
          walk_at "q"
          refine q_append hl6 (line_lt (by rw [List.length_map]; omega)) ?_
          refine ⟨_, _, _, _, _, _, _, zs ++ [nm], kvs, G6, rfl, s6.cell gl6 (s0.fresh hl) nbl, hB6, gl6, by rw [List.map_append]; exact upd_same, by rw [List.length_append, hlen] <;> rfl, ?_, fun z hz => ?_⟩
          · rw [List.nodup_append]
            exact ⟨nod, by simp, fun a ha b' hb' e => nm2 (by rw [List.mem_singleton.mp hb'] at e; rw [← e]; exact ha)⟩
          · rcases List.mem_append.mp hz with h | h
            · exact nam z h
            · rw [List.mem_singleton.mp h]
              exact nm1
    · rintro σ' H' ⟨z4, z5, z6, z7, z8, z9, z10, zs, kvs, G', rfl, s1, hB1, gl, hl1, hlen, nod, nam⟩
      have s2 := s1.knowC gl (s0.fresh hl) nbl hl1
      walk_at "q"
      exact q l zs kvs _ _ s2 (hB1.mono (Ex.new gl)) (.lst upd_same (strs_rps zs)) hlen nod nam
end
end Cw

set_option maxHeartbeats 4000000
namespace Cw
open PySem PySem.Spec PyProof.Rows L2
section
variable {P : Program} {w : World} {K : PySem.W.Frag} {mg : Str → Option Value} {base : Heap}
abbrev s__law_rule : Stmt := topS 61
abbrev N__law_rule : List Str := ["pool", "processes", "channels", "way", "token", "process", "act", "c", "states"]
theorem sc__law_rule : FnScope N__law_rule ["pool", "processes", "channels"] (defScope s__law_rule) := ⟨rfl, rfl, rfl, by decide +kernel, rfl, by decide +kernel, by decide +kernel⟩
theorem c_prule {f : Addr} {fd : FuncData} (F : FnP K "_law_rule" s__law_rule f fd) (hm : mg "_law_rule" = some (.ref f)) (B : Blt mg) (C__law_take : Cal P w K mg base 2 "_law_take" ["pool", "many"] (sp_take K)) :
    Cal P w K mg base 3 "_law_rule" ["pool", "processes", "channels"] (sp_prule K) := by
  refine cal_of F hm sc__law_rule (fun _ _ _ _ _ _ _ us hl => match us, hl with | [_, _, _], _ => rfl) (fun vs H Q E h => ?_) (fun cdv A outer s H vs Q E hr h => ?_)
  · obtain ⟨_, _, _, _, _, _, _, rfl, _⟩ := h
    rfl
  · obtain ⟨G, b, kvs, v1, v2, ps, cs, rfl, eG, gb, hb, hB, r1, r2, p1, p5, hps, c8, hcs, q⟩ := h
    have nd := sc__law_rule.nd
    have s0 := Bx.start eG gb hb hB
    refine ⟨_, [some _, some _, some _, none, none, none, none, none, none], ((pss_cons (ps_set (i := 3) nd rfl (Or.inl rfl) (pe_callC C__law_take (hr.mono (by omega)) (by rfl) (pa_cons (pv 0) (pa_cons pe_int pa_nil))))
      (pss_cons (ps_set (i := 4) nd rfl (Or.inl rfl) (pe_ix (ix_seqK (K := K) rfl) (pe_lst (pa_cons pe_int (pa_cons pe_int (pa_cons pe_int (pa_cons (pe_callC C__law_take (hr.mono (by omega)) (by rfl) (pa_cons (pv 0) (pa_cons pe_int pa_nil))) pa_nil))))) (pe_callC C__law_take (hr.mono (by omega)) (by rfl) (pa_cons (pv 0) (pa_cons pe_int pa_nil))) (fun _ _ => rfl)))
      (pss_cons (ps_set (i := 5) nd rfl (Or.inl rfl) (pe_callC C__law_take (hr.mono (by omega)) (by rfl) (pa_cons (pv 0) (pa_cons (pe_callB (call_lenK (K := K) rfl) (by rfl) B.len_ bo_len (pa_cons (pv 1) pa_nil)) pa_nil))))
      (pss_cons (ps_set (i := 6) nd rfl (Or.inl rfl) (pe_tup (pa_cons pe_str pa_nil)))
      (pss_cut (ps_if (PW.pt (pw_and (pt_cmpR op_gt (pv 3) pe_int (nomark _)) (pw_and1 (pt_cmpR op_gt (pe_callB (call_lenK (K := K) rfl) (by rfl) B.len_ bo_len (pa_cons (pv 2) pa_nil)) pe_int (nomark _))))) (pss_cons (ps_set (i := 7) nd rfl (Or.inl rfl) (pe_callC C__law_take (hr.mono (by omega)) (by rfl) (pa_cons (pv 0) (pa_cons (pe_callB (call_lenK (K := K) rfl) (by rfl) B.len_ bo_len (pa_cons (pv 2) pa_nil)) pa_nil))))
      (pss_cons (ps_set (i := 5) nd rfl (Or.inl rfl) (pe_ix (ix_seqK (K := K) rfl) (pe_ix (ix_seqK (K := K) rfl) (pv 2) (pv 7) (fun _ _ => rfl)) (pe_op (op_addK (K := K) rfl) pe_int (pe_callTy call_intA (by rfl) B.int_ bo_int (pa_cons (pe_cmpR op_gt (pv 3) pe_int (nomark _)) pa_nil))) (fun _ _ => rfl)))
      (pss_one (ps_set (i := 6) nd rfl (Or.inl rfl) (pe_tup (pa_cons (pe_ix (ix_seqK (K := K) rfl) (pe_lst (pa_cons pe_str (pa_cons pe_str pa_nil))) (pe_callTy call_intA (by rfl) B.int_ bo_int (pa_cons (pe_cmpR op_gt (pv 3) pe_int (nomark _)) pa_nil)) (fun _ _ => rfl)) (pa_cons (pv 7) (pa_cons (pv 4) pa_nil)))))))) pss_nil)
      (pss_cons (ps_set (i := 8) nd rfl (Or.inl rfl) (pe_ix (ix_seqK (K := K) rfl) (pe_ix (ix_seqK (K := K) rfl) (pv 1) (pv 5) (fun _ _ => rfl)) pe_int (fun _ _ => rfl)))
      (pss_one (ps_ret (pe_tup (pa_cons (pv 5) (pa_cons (pe_callC C__law_take (hr.mono (by omega)) (by rfl) (pa_cons (pv 0) (pa_cons (pv 8) pa_nil))) (pa_cons (pv 6) (pa_cons (pe_callC C__law_take (hr.mono (by omega)) (by rfl) (pa_cons (pv 0) (pa_cons (pv 8) pa_nil))) pa_nil)))))))))))))), rfl, ?_⟩
    walk_at "q"
    refine s0.take (by decide) (by decide) (fun way H1 hway s1 => ?_)
    walk_at "q"
    refine s1.take (by decide) (by decide) (fun t10 H2 ht10 s2 => ?_)
    walk_at "q"
    rename_i p hp
    obtain ⟨G3, e3, k3, s3⟩ := s2.made (o := .lst [.int 0, .int 0, .int 1, .int (t10 : Int)]) hp
    refine s3.take (by decide) (by decide) (fun i4 H4 hi4 s4 => ?_)
    refine q_ixLn (.inl (.inl (s4.ww _ _ k3))) (by omega) hi4 (fun v hv => ?_)
    obtain ⟨tok, rfl, htok⟩ : ∃ k : Nat, v = .int (k : Int) ∧ k < 10 := by
      simp only [List.mem_cons, List.mem_nil_iff, or_false] at hv
      rcases hv with rfl | rfl | rfl | rfl
      · exact ⟨0, rfl, by decide⟩
      · exact ⟨0, rfl, by decide⟩
      · exact ⟨1, rfl, by decide⟩
      · exact ⟨t10, rfl, by omega⟩
    have w4 := s4.ww
    walk_at "q"
    refine s4.take (by omega) (by omega) (fun pi H5 hpi s5 => ?_)
    walk_at "q"
    rename_i p6 hp6
    obtain ⟨G6, e6, k6, s6⟩ := s5.made (o := .tup [.str "do"]) hp6
    have ra : Rp K G6 (.ref p6) (.tuple [.str "do"]) := .tup (.inl (.inl k6)) (.cons (.str _) .nil)
    have e36 := e3.trans e6
    generalize L2.upd H5 p6 (.tup [.str "do"]) = H6 at s6 ⊢
    clear s5 s4 w4 s3 k3 hp hp6 e3 e6
    refine q_cut (M := fun σ' H' => ∃ z7 a pact G' pr, σ' = [some (.ref b), some v1, some v2, some (.int (way : Int)), some (.int (tok : Int)), some (.int ((pr : Nat) : Int)), some pact, z7, none] ∧ pr < ps.length ∧ Bx K b G H G' H' [] ∧ Rp K G' pact a ∧
        (a = .tuple [.str "do"] ∨ ∃ (c k : Nat) (y : Str) (g tk : Nat) (kd : Str), cs[c]? = some (.tuple [.str y, .int g, .int tk, .str kd]) ∧ k < 10 ∧ ((a = .tuple [.str "send", .int c, .int k] ∧ g = pr) ∨ (a = .tuple [.str "take", .int c, .int k] ∧ tk = pr)))) ?_ ?_
    · have w6 := s6.ww
      have done0 : ∃ z7 a pact G' pr, [some (.ref b), some v1, some v2, some (.int (way : Int)), some (.int (tok : Int)), some (.int (pi : Int)), some (.ref p6), none, none] = [some (.ref b), some v1, some v2, some (.int (way : Int)), some (.int (tok : Int)), some (.int ((pr : Nat) : Int)), some pact, z7, none] ∧ pr < ps.length ∧ Bx K b G H G' H6 [] ∧ Rp K G' pact a ∧
        (a = .tuple [.str "do"] ∨ ∃ (c k : Nat) (y : Str) (g tk : Nat) (kd : Str), cs[c]? = some (.tuple [.str y, .int g, .int tk, .str kd]) ∧ k < 10 ∧ ((a = .tuple [.str "send", .int c, .int k] ∧ g = pr) ∨ (a = .tuple [.str "take", .int c, .int k] ∧ tk = pr))) :=
        ⟨none, _, _, G6, pi, rfl, by omega, s6, ra, .inl rfl⟩
      walk_at "q"
      refine q_ifd (fun h1 => ?_) (fun h1 => ?_)
      · walk_at "q"
        refine q_ifd (fun h2 => ?_) (fun h2 => ?_)
        · walk_at "q"
          refine s6.take (by omega) (by omega) (fun c H7 hc s7 => ?_)
          have w7 := s7.ww
          have hcl : c < cs.length := by omega
          obtain ⟨y, g, tk, kd, ec, _, hg, htk, gt, _⟩ := hcs _ (List.getElem_mem hcl)
          walk_at "q"
          refine q_ixRL r2 (e36.trans w7) (atI_at hcl) (fun u3 hu3 => ?_)
          rw [ec] at hu3
          walk_at "q"
          by_cases h3 : (2 : Int) < way
          · rw [if_pos (decide_eq_true h3)]
            refine q_ixRT hu3 (e36.trans w7) (atI_nat (j := 2) rfl) (fun u4 hu4 => ?_)
            cases hu4
            walk_at "q"
            rename_i pk hpk
            rw [if_pos (decide_eq_true h3)]
            refine q_ixC upd_same (atI_nat (j := 1) rfl) ?_
            walk_at "q"
            rename_i pt hpt
            obtain ⟨G8, e8, k8, s8⟩ := (s7.up (Ex.new hpk)).made (o := .tup [.str "take", .int (c : Int), .int (tok : Int)]) hpt
            exact ⟨_, .tuple [.str "take", .int c, .int tok], .ref pt, G8, tk, rfl, htk, s8, .tup (.inl (.inl k8)) (.cons (.str _) (.cons (.int _) (.cons (.int _) .nil))), .inr ⟨c, tok, y, g, tk, kd, by rw [List.getElem?_eq_getElem hcl, ec], htok, .inr ⟨rfl, rfl⟩⟩⟩
          · rw [if_neg (by rw [decide_eq_false h3]; decide)]
            refine q_ixRT hu3 (e36.trans w7) (atI_nat (j := 1) rfl) (fun u4 hu4 => ?_)
            cases hu4
            walk_at "q"
            rename_i pk hpk
            rw [if_neg (by rw [decide_eq_false h3]; decide)]
            refine q_ixC upd_same (atI_nat (j := 0) rfl) ?_
            walk_at "q"
            rename_i pt hpt
            obtain ⟨G8, e8, k8, s8⟩ := (s7.up (Ex.new hpk)).made (o := .tup [.str "send", .int (c : Int), .int (tok : Int)]) hpt
            exact ⟨_, .tuple [.str "send", .int c, .int tok], .ref pt, G8, g, rfl, hg, s8, .tup (.inl (.inl k8)) (.cons (.str _) (.cons (.int _) (.cons (.int _) .nil))), .inr ⟨c, tok, y, g, tk, kd, by rw [List.getElem?_eq_getElem hcl, ec], htok, .inl ⟨rfl, rfl⟩⟩⟩
        · walk_at "q"
          exact done0
      · walk_at "q"
        exact done0
    · rintro _ H7 ⟨z7, a, pact, G7, pr, rfl, hpr, s7, ra7, ha⟩
      obtain ⟨z, st, ep, hz, hs1, hs8⟩ := hps _ (List.getElem_mem hpr)
      have w7 := s7.ww
      walk_at "q"
      refine q_ixRL r1 (s7.g.trans w7) (atI_at hpr) (fun u1 hu1 => ?_)
      rw [ep] at hu1
      walk_at "q"
      refine q_ixRT hu1 (s7.g.trans w7) (atI_nat (j := 1) rfl) (fun u2 hu2 => ?_)
      cases hu2
      walk_at "q"
      refine s7.take (by omega) (by omega) (fun n1 H8 hn1 s8 => ?_)
      walk_at "q"
      refine s8.take (by omega) (by omega) (fun n2 H9 hn2 s9 => ?_)
      walk_at "q"
      rename_i pq hpq
      obtain ⟨Ga, ea, ka, sa⟩ := s9.made (o := .tup [.int (pr : Int), .int (n1 : Int), pact, .int (n2 : Int)]) hpq
      exact q (.ref pq) (.tuple [.int pr, .int n1, a, .int n2]) Ga _ sa (.tup (.inl (.inl ka)) (.cons (.int _) (.cons (.int _) (.cons (ra7.mono ea) (.cons (.int _) .nil))))) ⟨pr, n1, n2, a, z, st, rfl, by rw [List.getElem?_eq_getElem hpr, ep], by omega, by omega, ha⟩
end
end Cw

set_option maxHeartbeats 4000000
namespace Cw
open PySem PySem.Spec PyProof.Rows L2
section
variable {P : Program} {w : World} {K : PySem.W.Frag} {mg : Str → Option Value} {base : Heap}
abbrev s__law_net : Stmt := topS 62
abbrev N__law_net : List Str := ["pool", "many", "processes", "kinds", "channels", "name", "giver", "taker", "rules", "c", "states", "k"]
theorem sc__law_net : FnScope N__law_net ["pool"] (defScope s__law_net) := ⟨rfl, rfl, rfl, by decide +kernel, rfl, by decide +kernel, by decide +kernel⟩
theorem c_pnet {f : Addr} {fd : FuncData} (F : FnP K "_law_net" s__law_net f fd) (hm : mg "_law_net" = some (.ref f)) (B : Blt mg) (C__law_take : Cal P w K mg base 2 "_law_take" ["pool", "many"] (sp_take K)) (C__law_names : Cal P w K mg base 3 "_law_names" ["pool", "many"] (sp_dnames K))
    (C__law_rule : Cal P w K mg base 3 "_law_rule" ["pool", "processes", "channels"] (sp_prule K)) : Cal P w K mg base 4 "_law_net" ["pool"] (sp_pnet K) := by
  refine cal_of F hm sc__law_net (fun _ _ _ _ _ _ _ us hl => match us, hl with | [_], _ => rfl) (fun vs H Q E h => ?_) (fun cdv A outer s H vs Q E hr h => ?_)
  · obtain ⟨_, _, _, rfl, _⟩ := h
    rfl
  · obtain ⟨G, b, kvs, rfl, eG, gb, hb, hB, q⟩ := h
    have nd := sc__law_net.nd
    have s0 := Bx.start eG gb hb hB
    refine ⟨_, [some _, none, none, none, none, none, none, none, none, none, none, none], ((pss_cons (ps_set (i := 1) nd rfl (Or.inl rfl) (pe_ix (ix_seqK (K := K) rfl) (pe_lst (pa_cons pe_int (pa_cons pe_int (pa_cons pe_int (pa_cons pe_int (pa_cons pe_int (pa_cons (pe_op (op_addK (K := K) rfl) pe_int (pe_callC C__law_take (hr.mono (by omega)) (by rfl) (pa_cons (pv 0) (pa_cons pe_int pa_nil)))) pa_nil))))))) (pe_callC C__law_take (hr.mono (by omega)) (by rfl) (pa_cons (pv 0) (pa_cons pe_int pa_nil))) (fun _ _ => rfl)))
      (pss_cons (ps_setLc (i := 2) (own := [("name", 5)]) rfl nd rfl rfl (sw_true rfl rfl rfl (by decide +kernel)) (pi_seqK (K := K) rfl (pe_callC C__law_names (hr.mono (by omega)) (by rfl) (pa_cons (pv 0) (pa_cons (pv 1) pa_nil)))) (blkOk_by (N := N__law_net) (sc := defScope s__law_net) (by decide +kernel)) (fun _ _ _ _ _ => (pg_name (i := 5) nd rfl (by first | exact Or.inl rfl | exact Or.inr rfl))) (fun _ _ _ _ _ => pts_nil) (fun _ _ _ _ _ => (pe_tup (pa_cons (pv 5) (pa_cons (pe_ix (ix_seqK (K := K) rfl) (pe_lst (pa_cons pe_int (pa_cons pe_int (pa_cons pe_int (pa_cons pe_int (pa_cons (pe_op (op_addK (K := K) rfl) pe_int (pe_callC C__law_take (hr.mono (by omega)) (by rfl) (pa_cons (pv 0) (pa_cons pe_int pa_nil)))) pa_nil)))))) (pe_callC C__law_take (hr.mono (by omega)) (by rfl) (pa_cons (pv 0) (pa_cons pe_int pa_nil))) (fun _ _ => rfl)) pa_nil)))))
      (pss_cons (ps_set (i := 3) nd rfl (Or.inl rfl) (pe_lst (pa_cons pe_str (pa_cons pe_str (pa_cons pe_str (pa_cons pe_str pa_nil))))))
      (pss_cons (ps_set (i := 4) nd rfl (Or.inl rfl) (pe_lst pa_nil))
      (pss_cons (ps_for PassesOwn.never rfl (pi_seqK (K := K) rfl (pe_callC C__law_names (hr.mono (by omega)) (by rfl) (pa_cons (pv 0) (pa_cons (pe_op (op_mulB (K := K) rfl) (pe_ix (ix_seqK (K := K) rfl) (pe_lst (pa_cons pe_int (pa_cons pe_int (pa_cons pe_int (pa_cons (pe_callC C__law_take (hr.mono (by omega)) (by rfl) (pa_cons (pv 0) (pa_cons pe_int pa_nil))) pa_nil))))) (pe_callC C__law_take (hr.mono (by omega)) (by rfl) (pa_cons (pv 0) (pa_cons pe_int pa_nil))) (fun _ _ => rfl)) (pe_callTy call_intA (by rfl) B.int_ bo_int (pa_cons (pe_cmpR op_gt (pv 1) pe_int (nomark _)) pa_nil))) pa_nil)))) (pg_name (i := 5) nd rfl (by first | exact Or.inl rfl | exact Or.inr rfl)) (pss_cons (ps_set (i := 6) nd rfl (Or.inl rfl) (pe_callC C__law_take (hr.mono (by omega)) (by rfl) (pa_cons (pv 0) (pa_cons (pv 1) pa_nil))))
      (pss_cons (ps_set (i := 7) nd rfl (Or.inl rfl) (pe_op op_mod (pe_callTy call_intA (by rfl) B.int_ bo_int (pa_cons (pe_op (op_addK (K := K) rfl) (pe_op (op_addK (K := K) rfl) (pv 6) pe_int) (pe_callC C__law_take (hr.mono (by omega)) (by rfl) (pa_cons (pv 0) (pa_cons (pe_op op_sub (pv 1) pe_int) pa_nil)))) pa_nil)) (pv 1)))
      (pss_one (ps_expr (pe_bmK (K := K) rfl PySem.F.plainAttrs_list PySem.F.slot_list_append PySem.F.type_list_append mt_append (pv 4) (pa_cons (pe_tup (pa_cons (pv 5) (pa_cons (pv 6) (pa_cons (pv 7) (pa_cons (pe_ix (ix_seqK (K := K) rfl) (pv 3) (pe_callC C__law_take (hr.mono (by omega)) (by rfl) (pa_cons (pv 0) (pa_cons pe_int pa_nil))) (fun _ _ => rfl)) pa_nil))))) pa_nil)))))))
      (pss_cons (ps_set (i := 8) nd rfl (Or.inl rfl) (pe_lst pa_nil))
      (pss_cons (ps_for PassesOwn.never rfl (pi_range1 (by rfl) B.range_ (pa_cons (pe_callB (call_lenK (K := K) rfl) (by rfl) B.len_ bo_len (pa_cons (pv 4) pa_nil)) pa_nil)) (pg_name (i := 9) nd rfl (by first | exact Or.inl rfl | exact Or.inr rfl)) (pss_cons (ps_set (i := 10) nd rfl (Or.inl rfl) (pe_ix (ix_seqK (K := K) rfl) (pe_ix (ix_seqK (K := K) rfl) (pv 2) (pe_ix (ix_seqK (K := K) rfl) (pe_ix (ix_seqK (K := K) rfl) (pv 4) (pv 9) (fun _ _ => rfl)) pe_int (fun _ _ => rfl)) (fun _ _ => rfl)) pe_int (fun _ _ => rfl)))
      (pss_one (ps_expr (pe_bmK (K := K) rfl PySem.F.plainAttrs_list PySem.F.slot_list_append PySem.F.type_list_append mt_append (pv 8) (pa_cons (pe_tup (pa_cons (pe_ix (ix_seqK (K := K) rfl) (pe_ix (ix_seqK (K := K) rfl) (pv 4) (pv 9) (fun _ _ => rfl)) pe_int (fun _ _ => rfl)) (pa_cons pe_int (pa_cons (pe_tup (pa_cons pe_str (pa_cons (pv 9) (pa_cons pe_int pa_nil)))) (pa_cons (pe_callC C__law_take (hr.mono (by omega)) (by rfl) (pa_cons (pv 0) (pa_cons (pv 10) pa_nil))) pa_nil))))) pa_nil))))))
      (pss_cons (ps_for PassesOwn.never rfl (pi_range1 (by rfl) B.range_ (pa_cons (pe_op (op_addK (K := K) rfl) pe_int (pe_callC C__law_take (hr.mono (by omega)) (by rfl) (pa_cons (pv 0) (pa_cons pe_int pa_nil)))) pa_nil)) (pg_name (i := 11) nd rfl (by first | exact Or.inl rfl | exact Or.inr rfl)) (pss_one (ps_expr (pe_bmK (K := K) rfl PySem.F.plainAttrs_list PySem.F.slot_list_append PySem.F.type_list_append mt_append (pv 8) (pa_cons (pe_callC C__law_rule (hr.mono (by omega)) (by rfl) (pa_cons (pv 0) (pa_cons (pv 2) (pa_cons (pv 4) pa_nil)))) pa_nil)))))
      (pss_one (ps_ret (pe_disp (pps_cons pe_str (pv 2) (pps_cons pe_str (pv 4) (pps_cons pe_str (pv 8) pps_nil))) (by rfl) (by rfl) (by simp) (by decide))))))))))))), rfl, ?_⟩
    walk_at "q"
    refine s0.take (by decide) (by decide) (fun t1 H1 ht1 s1 => ?_)
    walk_at "q"
    rename_i p hp
    obtain ⟨G2, e2, k2, s2⟩ := s1.made (o := .lst [.int 2, .int 3, .int 2, .int 3, .int 1, .int (2 + (t1 : Int))]) hp
    refine s2.take (by decide) (by decide) (fun i2 H3 hi2 s3 => ?_)
    refine q_ixLn (.inl (.inl (s3.ww _ _ k2))) (by omega) hi2 (fun v hv => ?_)
    obtain ⟨m, rfl, m1, m5⟩ : ∃ k : Nat, v = .int (k : Int) ∧ 1 ≤ k ∧ k ≤ 5 := by
      simp only [List.mem_cons, List.mem_nil_iff, or_false] at hv
      rcases hv with rfl | rfl | rfl | rfl | rfl | rfl
      · exact ⟨2, rfl, by decide, by decide⟩
      · exact ⟨3, rfl, by decide, by decide⟩
      · exact ⟨2, rfl, by decide, by decide⟩
      · exact ⟨3, rfl, by decide, by decide⟩
      · exact ⟨1, rfl, by decide, by decide⟩
      · exact ⟨2 + t1, by rw [show (2 + (t1 : Int)) = ((2 + t1 : Nat) : Int) by omega], by omega, by omega⟩
    clear s2 s1 hp k2
    walk_at "q"
    refine q_lcL ?_
    walk_at "q"
    refine s3.names (by omega) (fun l1 zs G4 H4 e4 s4 rz lz nz nmz => ?_)
    refine s4.lcL (fun i d => ∃ (z : Str) (st : Nat), zs[i]? = some z ∧ d = .tuple [.str z, .int st] ∧ 1 ≤ st ∧ st ≤ 8) rz (by rw [List.length_map]; omega) (fun i d u G5 H5 cells' hd e5 s5 ru C N hC => ?_) (fun D ps G5 H5 e5 s5 rps lps hps => ?_)
    · obtain ⟨z, hz, rfl⟩ : ∃ z, zs[i]? = some z ∧ d = .str z := by
        rw [List.getElem?_map] at hd
        cases e : zs[i]? with
        | none => rw [e] at hd; cases hd
        | some z => rw [e] at hd; exact ⟨z, rfl, (Option.some.inj hd).symm⟩
      obtain rfl := rp_str ru
      walk_at "q"
      refine ⟨rfl, ?_⟩
      walk_at "q"
      refine s5.take (by decide) (by decide) (fun t6 H6 ht6 s6 => ?_)
      walk_at "q"
      rename_i p7 hp7
      obtain ⟨G7, e7, k7, s7⟩ := s6.made (o := .lst [.int 1, .int 2, .int 3, .int 2, .int (1 + (t6 : Int))]) hp7
      refine s7.take (by decide) (by decide) (fun i8 H8 hi8 s8 => ?_)
      refine q_ixLn (.inl (.inl (s8.ww _ _ k7))) (by omega) hi8 (fun v hv => ?_)
      obtain ⟨st, rfl, st1, st8⟩ : ∃ k : Nat, v = .int (k : Int) ∧ 1 ≤ k ∧ k ≤ 8 := by
        simp only [List.mem_cons, List.mem_nil_iff, or_false] at hv
        rcases hv with rfl | rfl | rfl | rfl | rfl
        · exact ⟨1, rfl, by decide, by decide⟩
        · exact ⟨2, rfl, by decide, by decide⟩
        · exact ⟨3, rfl, by decide, by decide⟩
        · exact ⟨2, rfl, by decide, by decide⟩
        · exact ⟨1 + t6, by rw [show (1 + (t6 : Int)) = ((1 + t6 : Nat) : Int) by omega], by omega, by omega⟩
      walk_at "q"
      rename_i p9 hp9
      obtain ⟨G9, e9, k9, s9⟩ := s8.made (o := .tup [.str z, .int (st : Int)]) hp9
      exact hC _ (.tuple [.str z, .int st]) G9 _ (e7.trans e9) s9 (.tup (.inl (.inl k9)) (.cons (.str _) (.cons (.int _) .nil))) ⟨z, st, hz, rfl, st1, st8⟩
    rw [List.length_map, lz] at lps
    have pk : ∀ d ∈ ps, PrN d := fun d hd => by
      obtain ⟨i, hi, rfl⟩ := List.getElem_of_mem hd
      obtain ⟨z, st, hz, e, a1, a2⟩ := hps i _ (List.getElem?_eq_getElem hi)
      exact ⟨z, st, e, nmz z (List.mem_of_getElem? hz), a1, a2⟩
    have pn : ps.map (fun c => strOf (atD c 0)) = zs := by
      apply List.ext_getElem?
      intro i
      rw [List.getElem?_map]
      by_cases hi : i < ps.length
      · obtain ⟨z, st, hz, e, _⟩ := hps i _ (List.getElem?_eq_getElem hi)
        rw [List.getElem?_eq_getElem hi, hz]
        show some (strOf (atD ps[i] 0)) = _
        rw [e] <;> rfl
      · rw [List.getElem?_eq_none (by omega), List.getElem?_eq_none (by omega)] <;> rfl
    have eg := e2.trans (e4.trans e5)
    clear e2 e4 e5 rz s4 s3 hps
    walk_at "q"
    rename_i pk_ hpk lc hlc
    obtain ⟨G6, e6, k6, s6⟩ := s5.made (o := .lst [.str "order", .str "loose", .str "order lossy", .str "loose lossy"]) hpk
    generalize L2.upd H5 pk_ (.lst [.str "order", .str "loose", .str "order lossy", .str "loose lossy"]) = H6 at s6 hlc ⊢
    have s7 := s6.open_ (o := .lst []) hlc
    generalize L2.upd H6 lc (.lst []) = H7 at s7 ⊢
    have rps6 := rps.mono e6
    clear s6 s5 hlc hpk e6 rps
    refine q_forL ?_
    walk_at "q"
    refine s7.take (by decide) (by decide) (fun t8 H8 ht8 s8 => ?_)
    walk_at "q"
    rename_i p9 hp9
    obtain ⟨G9, e9, k9, s9⟩ := s8.made (o := .lst [.int 1, .int 2, .int 3, .int (t8 : Int)]) hp9
    refine s9.take (by decide) (by decide) (fun i10 H10 hi10 s10 => ?_)
    refine q_ixLn (.inl (.inl (s10.ww _ _ k9))) (by omega) hi10 (fun v hv => ?_)
    obtain ⟨cnt, rfl, cnt8⟩ : ∃ k : Nat, v = .int (k : Int) ∧ k ≤ 8 := by
      simp only [List.mem_cons, List.mem_nil_iff, or_false] at hv
      rcases hv with rfl | rfl | rfl | rfl
      · exact ⟨1, rfl, by decide⟩
      · exact ⟨2, rfl, by decide⟩
      · exact ⟨3, rfl, by decide⟩
      · exact ⟨t8, rfl, by omega⟩
    walk_at "q"
    obtain ⟨nc, enc, nc8, ncm⟩ : ∃ nc : Nat, (cnt : Int) * (if decide ((1 : Int) < m) = true then 1 else 0) = (nc : Int) ∧ nc ≤ 8 ∧ (0 < nc → 1 < m) := by
      by_cases h : (1 : Int) < m
      · exact ⟨cnt, by rw [if_pos (decide_eq_true h), Int.mul_one], cnt8, fun _ => by omega⟩
      · exact ⟨0, by rw [if_neg (by rw [decide_eq_false h]; decide), Int.mul_zero] <;> rfl, by decide, fun z => absurd z (by decide)⟩
    rw [enc]
    refine s10.names nc8 (fun l2 ys G11 H11 e11 s11 ry ly ny nmy => ?_)
    have rps11 := rps6.mono (e9.trans e11)
    have k11 := e11 _ _ (e9 _ _ k6)
    have eg11 := eg
    clear s10 s9 s8 s7 k9 hp9
    obtain ⟨al, us, eal, hus, rus⟩ := rp_lst ry
    cases eal
    refine q_lst_for (.inl (.inl (s11.ww _ _ hus))) (fun i σ' H' => ∃ z5 z6 z7 vs cs G', σ' = [some (.ref b), some (.int (m : Int)), some (.ref D), some (.ref pk_), some (.ref lc), z5, z6, z7, none, none, none, none] ∧ Ex G11 G' ∧ Bx K b G H G' H' [(lc, .lst vs)] ∧ Rps K G' vs cs ∧ cs.length = i ∧ (∀ c ∈ cs, ChN m c) ∧ cs.map (fun c => strOf (atD c 0)) = ys.take i)
      ⟨none, none, none, [], [], G11, rfl, Ex.refl _, s11, .nil, rfl, by simp, rfl⟩ ?_ ?_ ?_
    · rintro i σ' H' hi ⟨_, _, _, _, _, G', _, eg', s', _⟩
      exact .inl (.inl (s'.ww _ _ (eg' _ _ hus)))
    · rintro i x σ' H' hx ⟨z5, z6, z7, vs, cs, G', rfl, eg', s', rcs, lcs, hcs, ncs⟩
      obtain ⟨d, hd, rx⟩ := rus.at hx
      obtain ⟨z, hz, rfl⟩ : ∃ z, ys[i]? = some z ∧ d = .str z := by
        rw [List.getElem?_map] at hd
        cases e : ys[i]? with
        | none => rw [e] at hd; cases hd
        | some z => rw [e] at hd; exact ⟨z, rfl, (Option.some.inj hd).symm⟩
      obtain rfl := rp_str rx
      have hi := (List.getElem?_eq_some_iff.mp hz).1
      have m2 : 1 < m := ncm (by omega)
      walk_at "q"
      refine s'.take (by omega) (by omega) (fun gv H12 hgv s12 => ?_)
      walk_at "q"
      refine s12.take (by omega) (by omega) (fun t13 H13 ht13 s13 => ?_)
      have h13 := s13.at0
      obtain ⟨tk, etk, htk, ntk⟩ : ∃ tk : Nat, ((gv : Int) + 1 + t13) % (m : Int) = (tk : Int) ∧ tk < m ∧ gv ≠ tk := by
        refine ⟨(gv + 1 + t13) % m, by rw [Int.natCast_emod, Int.natCast_add, Int.natCast_add] <;> rfl, Nat.mod_lt _ (by omega), fun h => ?_⟩
        rcases Nat.lt_or_ge (gv + 1 + t13) m with h1 | h1
        · rw [Nat.mod_eq_of_lt h1] at h
          omega
        · rw [Nat.mod_eq_sub_mod h1, Nat.mod_eq_of_lt (by omega)] at h
          omega
      walk_at "q"
      rw [etk]
      refine s13.take (by decide) (by decide) (fun k14 H14 hk14 s14 => ?_)
      have w14 := s14.ww
      refine q_ixLn (.inl (.inl (w14 _ _ (eg' _ _ k11)))) (by omega) hk14 (fun v hv => ?_)
      obtain ⟨kd, rfl, hkd⟩ : ∃ kd : Str, v = .str kd ∧ kd ∈ (["order", "loose", "order lossy", "loose lossy"] : List Str) := by
        simp only [List.mem_cons, List.mem_nil_iff, or_false] at hv
        rcases hv with rfl | rfl | rfl | rfl
        · exact ⟨_, rfl, by simp⟩
        · exact ⟨_, rfl, by simp⟩
        · exact ⟨_, rfl, by simp⟩
        · exact ⟨_, rfl, by simp⟩
      walk_at "q"
      rename_i pt hpt
      obtain ⟨G15, e15, k15, s15⟩ := s14.made (o := .tup [.str z, .int (gv : Int), .int (tk : Int), .str kd]) hpt
      refine q_append s15.at0 (line_lt (by rw [rcs.len, lcs]; omega)) ?_
      refine ⟨_, _, _, _, cs ++ [.tuple [.str z, .int gv, .int tk, .str kd]], G15, rfl, eg'.trans e15, s15.put0 _, (rcs.mono e15).app (Rps.one (.tup (.inl (.inl k15)) (.cons (.str _) (.cons (.int _) (.cons (.int _) (.cons (.str _) .nil)))))), by rw [List.length_append, lcs] <;> rfl, fun c hc => ?_, ?_⟩
      · rcases List.mem_append.mp hc with h | h
        · exact hcs c h
        · exact ⟨z, gv, tk, kd, List.mem_singleton.mp h, nmy z (List.mem_of_getElem? hz), by omega, htk, ntk, hkd⟩
      · rw [List.map_append, ncs, List.take_add_one, hz]
        rfl
    · rintro σ' H' ⟨z5, z6, z7, vs, cs, G', rfl, eg', s', rcs, lcs, hcs, ncs⟩
      have lus : us.length = nc := by rw [rus.len, List.length_map, ly]
      rw [lus] at lcs
      rw [lus, ← ly, List.take_length] at ncs
      obtain ⟨G12, e12, k12, s12⟩ := s'.close
      have rc12 : Rp K G12 (.ref lc) (.list cs) := .lst k12 (rcs.mono e12)
      have rp12 := rps11.mono (eg'.trans e12)
      clear s' rcs rus hus ry s11 k11 rps11 k12 e11
      walk_at "q"
      rename_i lr hlr
      have s13 := s12.open_ (o := .lst []) hlr
      generalize L2.upd H' lr (.lst []) = H13 at s13 ⊢
      clear s12 hlr
      refine q_lenRL rc12 s13.ww ?_
      walk_at "q"
      refine q_rng1 cs.length (by omega) (fun i σ' H' => ∃ z9 z10 vs rs G', σ' = [some (.ref b), some (.int (m : Int)), some (.ref D), some (.ref pk_), some (.ref lc), z5, z6, z7, some (.ref lr), z9, z10, none] ∧ Ex G12 G' ∧ Bx K b G H G' H' [(lr, .lst vs)] ∧ Rps K G' vs rs ∧ rs.length = i ∧ (∀ r ∈ rs, RuOk ps cs r))
        ⟨none, none, [], [], G12, rfl, Ex.refl _, s13, .nil, rfl, by simp⟩ ?_ ?_
      · rintro i σ' H' hi ⟨z9, z10, vs, rs, G', rfl, eg', s', rrs, lrs, hrs⟩
        obtain ⟨y, g, tk, kd, ec, _, hg, htk, gt, _⟩ := hcs _ (List.getElem_mem hi)
        have hgp : g < ps.length := by omega
        obtain ⟨zn, st, ep, _, st1, st8⟩ := pk _ (List.getElem_mem hgp)
        have w14 := eg'.trans s'.ww
        have h13 := s'.at0
        walk_at "q"
        refine q_ixRL rc12 w14 (atI_at hi) (fun u3 hu3 => ?_)
        rw [ec] at hu3
        walk_at "q"
        refine q_ixRT hu3 w14 (atI_nat (j := 1) rfl) (fun u4 hu4 => ?_)
        cases hu4
        refine q_ixRL rp12 w14 (atI_at hgp) (fun u5 hu5 => ?_)
        rw [ep] at hu5
        walk_at "q"
        refine q_ixRT hu5 w14 (atI_nat (j := 1) rfl) (fun u6 hu6 => ?_)
        cases hu6
        walk_at "q"
        refine q_ixRL rc12 w14 (atI_at hi) (fun u7 hu7 => ?_)
        rw [ec] at hu7
        walk_at "q"
        refine q_ixRT hu7 w14 (atI_nat (j := 1) rfl) (fun u8 hu8 => ?_)
        cases hu8
        walk_at "q"
        rename_i pa hpa
        obtain ⟨G15, e15, k15, s15⟩ := s'.made (o := .tup [.str "send", .int (i : Int), .int 0]) hpa
        refine s15.take (by omega) (by omega) (fun n1 H16 hn1 s16 => ?_)
        walk_at "q"
        rename_i pr hpr
        obtain ⟨G17, e17, k17, s17⟩ := s16.made (o := .tup [.int (g : Int), .int 0, .ref pa, .int (n1 : Int)]) hpr
        refine q_append s17.at0 (line_lt (by rw [rrs.len, lrs]; omega)) ?_
        have ra : Rp K G17 (.ref pa) (.tuple [.str "send", .int i, .int 0]) := .tup (.inl (.inl (e17 _ _ k15))) (.cons (.str _) (.cons (.int _) (.cons (.int 0) .nil)))
        refine ⟨_, _, _, rs ++ [.tuple [.int g, .int 0, .tuple [.str "send", .int i, .int 0], .int n1]], G17, rfl, eg'.trans (e15.trans e17), s17.put0 _, (rrs.mono (e15.trans e17)).app (Rps.one (.tup (.inl (.inl k17)) (.cons (.int _) (.cons (.int 0) (.cons ra (.cons (.int _) .nil)))))), by rw [List.length_append, lrs] <;> rfl, fun r hr => ?_⟩
        rcases List.mem_append.mp hr with h | h
        · exact hrs r h
        · exact ⟨g, 0, n1, _, zn, st, List.mem_singleton.mp h, by rw [List.getElem?_eq_getElem hgp, ep], by omega, by omega, .inr ⟨i, 0, y, g, tk, kd, by rw [List.getElem?_eq_getElem hi, ec], by decide, .inl ⟨rfl, rfl⟩⟩⟩
      · rintro σ' H' ⟨z9, z10, vs, rs, G', rfl, eg', s', rrs, lrs, hrs⟩
        walk_at "q"
        refine s'.take (by decide) (by decide) (fun t14 H14 ht14 s14 => ?_)
        walk_at "q"
        rw [show (4 + (t14 : Int)) = ((4 + t14 : Nat) : Int) by omega]
        refine q_rng1 (4 + t14) (by omega) (fun i σ' H' => ∃ z11 vs rs G', σ' = [some (.ref b), some (.int (m : Int)), some (.ref D), some (.ref pk_), some (.ref lc), z5, z6, z7, some (.ref lr), z9, z10, z11] ∧ Ex G12 G' ∧ Bx K b G H G' H' [(lr, .lst vs)] ∧ Rps K G' vs rs ∧ rs.length = cs.length + i ∧ (∀ r ∈ rs, RuOk ps cs r))
          ⟨none, vs, rs, G', rfl, eg', s14, rrs, by omega, hrs⟩ ?_ ?_
        · clear s' rrs lrs hrs s14 eg'
          rintro i σ' H' hi ⟨z11, vs, rs, G', rfl, eg', s', rrs, lrs, hrs⟩
          have h13 := s'.at0
          walk_at "q"
          obtain ⟨kv, hkv, hBv⟩ := s'.pool
          refine ⟨G', b, kv, .ref D, .ref lc, ps, cs, rfl, s'.ww, s'.gb, hkv, hBv, rp12.mono eg', rc12.mono eg', by omega, by omega, pk, by omega, by rw [lps]; exact hcs, fun u d G2 H2 s2 rd hd => ?_⟩
          have s3 := s'.grobB s2
          walk_at "q"
          refine q_append s3.at0 (line_lt (by rw [rrs.len, lrs]; omega)) ?_
          refine ⟨_, _, rs ++ [d], G2, rfl, eg'.trans s2.g, s3.put0 _, (rrs.mono s2.g).app (Rps.one rd), by rw [List.length_append, lrs]; simp only [List.length_cons, List.length_nil]; omega, fun r hr => ?_⟩
          rcases List.mem_append.mp hr with h | h
          · exact hrs r h
          · rw [List.mem_singleton.mp h]
            exact hd
        · clear s' rrs lrs hrs s14 eg'
          rintro σ' H' ⟨z11, vs, rs, G', rfl, eg', s', rrs, lrs, hrs⟩
          obtain ⟨G15, e15, k15, s15⟩ := s'.close
          have rr15 : Rp K G15 (.ref lr) (.list rs) := .lst k15 (rrs.mono e15)
          have rc15 := rc12.mono (eg'.trans e15)
          have rp15 := rp12.mono (eg'.trans e15)
          walk_at "q"
          refine q_disp (fun n hn => ?_)
          have s16 := s15.open_ (o := .dK []) hn
          walk_at "q"
          refine ⟨upd_same, [(.inr "processes", .ref D), (.inr "channels", .ref lc), (.inr "rules", .ref lr)], rfl, (show (3 : Nat) ≤ 15 by decide), ?_⟩
          obtain ⟨G17, e17, k17, s17⟩ := (s16.put0 (.dK [(.inr "processes", .ref D), (.inr "channels", .ref lc), (.inr "rules", .ref lr)])).close
          have ln : LNet ps cs rs := ⟨by omega, by omega, pk, by rw [pn]; exact nz, by omega, by rw [lps]; exact hcs, by rw [ncs]; exact ny, by omega, hrs⟩
          have eC : (mnOf ps cs rs).C.map Chn.d = cs := congrArg NetD.c ln.mnN
          have eR : (mnOf ps cs rs).R.map Rul.d = rs := congrArg NetD.r ln.mnN
          refine q n ps cs rs G17 _ s17 ⟨D, lc, lr, k17, rp15.mono e17, ?_, ?_⟩ ln
          · rw [eC]
            exact rc15.mono e17
          · rw [eR]
            exact rr15.mono e17
end
end Cw

set_option maxHeartbeats 4000000
namespace Cw
open PySem PySem.Spec PyProof.Rows L2
section
variable {P : Program} {w : World} {K : PySem.W.Frag} {mg : Str → Option Value} {base : Heap}
abbrev s__law_start : Stmt := topS 64
abbrev N__law_start : List Str := ["net", "process", "c"]
theorem sc__law_start : FnScope N__law_start ["net"] (defScope s__law_start) := ⟨rfl, rfl, rfl, by decide +kernel, rfl, by decide +kernel, by decide +kernel⟩
theorem c_dstart {f : Addr} {fd : FuncData} (F : FnP K "_law_start" s__law_start f fd) (hm : mg "_law_start" = some (.ref f)) (B : Blt mg) : Cal P w K mg base 1 "_law_start" ["net"] (sp_dstart K) := by
  refine cal_of F hm sc__law_start (fun _ _ _ _ _ _ _ us hl => match us, hl with | [_], _ => rfl) (fun vs H Q E h => ?_) (fun cdv A outer s H vs Q E hr h => ?_)
  · obtain ⟨_, _, _, rfl, _⟩ := h
    rfl
  · obtain ⟨G, n, M, rfl, eG, hN, ok, q⟩ := h
    have nd := sc__law_start.nd
    refine ⟨_, [some _, none, none], ((pss_one (ps_ret (pe_tup (pa_cons (pe_lc (own := [("process", 1)]) rfl nd (pi_seqK (K := K) rfl (pe_dget (hu1 hr) (pv 0) pe_str (fun _ _ => rfl))) (blkOk_by (N := N__law_start) (sc := defScope s__law_start) (by decide +kernel)) (fun _ _ _ _ _ => (pg_name (i := 1) nd rfl (by first | exact Or.inl rfl | exact Or.inr rfl))) (fun _ _ _ _ _ => pts_nil) (fun _ _ _ _ _ => pe_int)) (pa_cons (pe_lc (own := [("c", 2)]) rfl nd (pi_seqK (K := K) rfl (pe_dget (hu1 hr) (pv 0) pe_str (fun _ _ => rfl))) (blkOk_by (N := N__law_start) (sc := defScope s__law_start) (by decide +kernel)) (fun _ _ _ _ _ => (pg_name (i := 2) nd rfl (by first | exact Or.inl rfl | exact Or.inr rfl))) (fun _ _ _ _ _ => pts_nil) (fun _ _ _ _ _ => pe_int)) (pa_cons (pe_lc (own := [("c", 2)]) rfl nd (pi_seqK (K := K) rfl (pe_dget (hu1 hr) (pv 0) pe_str (fun _ _ => rfl))) (blkOk_by (N := N__law_start) (sc := defScope s__law_start) (by decide +kernel)) (fun _ _ _ _ _ => (pg_name (i := 2) nd rfl (by first | exact Or.inl rfl | exact Or.inr rfl))) (fun _ _ _ _ _ => pts_nil) (fun _ _ _ _ _ => (pe_lst pa_nil))) pa_nil))))))), rfl, ?_⟩
    walk_at "q"
    refine q_lcL ?_
    walk_at "q"
    refine q_nlP hN eG (fun p hp => ?_)
    refine q_fmL (h := fun d : PyData => d) (f := fun _ => some (nD 0)) (xs := M.ps) (by rw [List.map_id']; exact hp) eG (by have := ok.lp; omega) (fun i x u G' H' hx gr ru C N yes no => ?_) (fun G1 H1 D1 g1 hD1 r1 => ?_)
    · have w1 := gr.w
      walk_at "q"
      refine ⟨rfl, ?_⟩
      walk_at "q"
      exact yes _ _ _ _ rfl (Gro.refl w1) (.int 0)
    have w1 := g1.w
    walk_at "q"
    refine q_lcL ?_
    walk_at "q"
    refine q_nlC (hN.mono g1.g) w1 (fun p hp => ?_)
    refine q_fmL (h := Chn.d) (f := fun _ => some (nD 0)) hp w1 (by have := ok.lc; omega) (fun i x u G' H' hx gr ru C N yes no => ?_) (fun G2 H2 D2 g2 hD2 r2 => ?_)
    · have w1 := gr.w
      walk_at "q"
      refine ⟨rfl, ?_⟩
      walk_at "q"
      exact yes _ _ _ _ rfl (Gro.refl w1) (.int 0)
    have w2 := g2.w
    walk_at "q"
    refine q_lcL ?_
    walk_at "q"
    refine q_nlC (hN.mono (g1.g.trans g2.g)) w2 (fun p hp => ?_)
    refine q_fmL (h := Chn.d) (f := fun _ => some (.list [])) hp w2 (by have := ok.lc; omega) (fun i x u G' H' hx gr ru C N yes no => ?_) (fun G3 H3 D3 g3 hD3 r3 => ?_)
    · have w1 := gr.w
      walk_at "q"
      refine ⟨rfl, ?_⟩
      walk_at "q"
      rename_i pe hpe
      exact yes _ _ _ _ rfl (Gro.new w1 hpe) (.lst upd_same .nil)
    walk_at "q"
    rename_i px hpx
    have g4 := Gro.new (o := .tup [.ref D1, .ref D2, .ref D3]) g3.w hpx
    rw [fm_map, map_const] at r1 r2 r3
    refine q _ _ px (((g1.trans0 g2).trans0 g3).trans0 g4) (.tup (.inl (.inl upd_same)) (.cons ?_ (.cons ?_ (.cons ?_ .nil))))
    · show Rp K _ (.ref D1) (.list ((List.replicate M.ps.length 0).map nD))
      rw [List.map_replicate]
      exact r1.mono (g2.g.trans (g3.g.trans g4.g))
    · show Rp K _ (.ref D2) (.list ((List.replicate M.C.length 0).map nD))
      rw [List.map_replicate]
      exact r2.mono (g3.g.trans g4.g)
    · show Rp K _ (.ref D3) (.list ((List.replicate M.C.length []).map rowL))
      rw [List.map_replicate]
      exact r3.mono g4.g
abbrev s__law_told : Stmt := topS 65
abbrev N__law_told : List Str := ["world", "row"]
theorem sc__law_told : FnScope N__law_told ["world"] (defScope s__law_told) := ⟨rfl, rfl, rfl, by decide +kernel, rfl, by decide +kernel, by decide +kernel⟩
theorem c_told {f : Addr} {fd : FuncData} (F : FnP K "_law_told" s__law_told f fd) (hm : mg "_law_told" = some (.ref f)) (B : Blt mg) : Cal P w K mg base 1 "_law_told" ["world"] (sp_told K) := by
  refine cal_of F hm sc__law_told (fun _ _ _ _ _ _ _ us hl => match us, hl with | [_], _ => rfl) (fun vs H Q E h => ?_) (fun cdv A outer s H vs Q E hr h => ?_)
  · obtain ⟨_, _, _, rfl, _⟩ := h
    rfl
  · obtain ⟨G, v, W, rfl, eG, hv, hl, q⟩ := h
    have nd := sc__law_told.nd
    refine ⟨_, [some _, none], ((pss_one (ps_ret (pe_tup (pa_cons (pe_callTy (call_tupK (K := K) rfl) (by rfl) B.tuple_ bo_tuple (pa_cons (pe_ix (ix_seqK (K := K) rfl) (pv 0) pe_int (fun _ _ => rfl)) pa_nil)) (pa_cons (pe_callTy (call_tupK (K := K) rfl) (by rfl) B.tuple_ bo_tuple (pa_cons (pe_ix (ix_seqK (K := K) rfl) (pv 0) pe_int (fun _ _ => rfl)) pa_nil)) (pa_cons (pe_callTy (call_tupK (K := K) rfl) (by rfl) B.tuple_ bo_tuple (pa_cons (pe_lc (own := [("row", 1)]) rfl nd (pi_seqK (K := K) rfl (pe_ix (ix_seqK (K := K) rfl) (pv 0) pe_int (fun _ _ => rfl))) (blkOk_by (N := N__law_told) (sc := defScope s__law_told) (by decide +kernel)) (fun _ _ _ _ _ => (pg_name (i := 1) nd rfl (by first | exact Or.inl rfl | exact Or.inr rfl))) (fun _ _ _ _ _ => pts_nil) (fun _ _ _ _ _ => (pe_callTy (call_tupK (K := K) rfl) (by rfl) B.tuple_ bo_tuple (pa_cons (pv 1) pa_nil)))) pa_nil)) pa_nil))))))), rfl, ?_⟩
    walk_at "q"
    refine q_ixRT hv eG rfl (fun x0 h0 => ?_)
    walk_at "q"
    refine q_tupRS h0 (.inl rfl) eG (fun G1 H1 p1 g1 r1 => ?_)
    walk_at "q"
    refine q_ixRT (hv.mono g1.g) g1.w rfl (fun x1 h1 => ?_)
    walk_at "q"
    refine q_tupRS h1 (.inl rfl) g1.w (fun G2 H2 p2 g2 r2 => ?_)
    walk_at "q"
    refine q_lcL ?_
    walk_at "q"
    refine q_ixRT (hv.mono (g1.g.trans g2.g)) g2.w rfl (fun x2 h2 => ?_)
    refine q_fmL (h := rowL) (f := fun r => some (rowMD true r)) h2 g2.w (by omega) (fun i r u G' H' hx gr ru C N yes no => ?_) (fun G3 H3 D3 g3 hD3 r3 => ?_)
    · have w1 := gr.w
      walk_at "q"
      refine ⟨rfl, ?_⟩
      walk_at "q"
      refine q_tupRS ru (.inl rfl) w1 (fun G4 H4 p4 g4 r4 => ?_)
      exact yes _ _ _ _ rfl g4 r4
    · rw [fm_map] at r3
      walk_at "q"
      refine q_tupRS r3 (.inl rfl) g3.w (fun G4 H4 p4 g4 r4 => ?_)
      walk_at "q"
      rename_i px hpx
      have g5 := Gro.new (o := .tup [.ref p1, .ref p2, .ref p4]) g4.w hpx
      exact q _ _ px ((((g1.trans0 g2).trans0 g3).trans0 g4).trans0 g5) (.tup (.inl (.inl upd_same)) (.cons (r1.mono (g2.g.trans (g3.g.trans (g4.g.trans g5.g)))) (.cons (r2.mono (g3.g.trans (g4.g.trans g5.g))) (.cons (r4.mono g5.g) .nil))))
abbrev s__law_first : Stmt := topS 66
abbrev N__law_first : List Str := ["net", "world", "c"]
theorem sc__law_first : FnScope N__law_first ["net", "world", "c"] (defScope s__law_first) := ⟨rfl, rfl, rfl, by decide +kernel, rfl, by decide +kernel, by decide +kernel⟩
theorem c_first {f : Addr} {fd : FuncData} (F : FnP K "_law_first" s__law_first f fd) (hm : mg "_law_first" = some (.ref f)) (B : Blt mg) : Cal P w K mg base 1 "_law_first" ["net", "world", "c"] (sp_first K) := by
  refine cal_of F hm sc__law_first (fun _ _ _ _ _ _ _ us hl => match us, hl with | [_, _, _], _ => rfl) (fun vs H Q E h => ?_) (fun cdv A outer s H vs Q E hr h => ?_)
  · obtain ⟨_, _, _, _, _, _, _, rfl, _⟩ := h
    rfl
  · obtain ⟨G, n, M, x, W, BB, c, rfl, eG, hN, ok, hx, wok, hc, q⟩ := h
    have nd := sc__law_first.nd
    have hk := kind_mem ok hc
    have eh : hand M W c = if ordd M.C[c].k then (rowM W c).take 1 else rowM W c := by
      unfold hand
      rw [kindM_at hc]
    rw [kindM_at hc] at hk
    refine ⟨_, [some _, some _, some _], ((pss_cons (ps_if (pt_cmpR (op_eqK (K := K) rfl (hu64 hr)) (pe_slice (sl_anyK (K := K) rfl) (pe_ix (ix_seqK (K := K) rfl) (pe_ix (ix_seqK (K := K) rfl) (pe_dget (hu1 hr) (pv 0) pe_str (fun _ _ => rfl)) (pv 2) (fun _ _ => rfl)) pe_int (fun _ _ => rfl)) po_none (po_some pe_int)) pe_str (nomark _)) (pss_one (ps_ret (pe_slice (sl_anyK (K := K) rfl) (pe_ix (ix_seqK (K := K) rfl) (pe_ix (ix_seqK (K := K) rfl) (pv 1) pe_int (fun _ _ => rfl)) (pv 2) (fun _ _ => rfl)) po_none (po_some pe_int)))) pss_nil)
      (pss_one (ps_ret (pe_ix (ix_seqK (K := K) rfl) (pe_ix (ix_seqK (K := K) rfl) (pv 1) pe_int (fun _ _ => rfl)) (pv 2) (fun _ _ => rfl)))))), rfl, ?_⟩
    walk_at "q"
    refine q_nlC hN eG (fun p hp => ?_)
    walk_at "q"
    refine q_ixRL hp eG (MN.chan hc) (fun v1 h1 => ?_)
    walk_at "q"
    refine q_ixRT h1 eG (atI_nat (j := 3) rfl) (fun v2 h2 => ?_)
    obtain rfl := rp_str h2
    walk_at "q"
    refine .inr (.inr ⟨_, rfl, Nat.le_trans (shp_str (kind_shp hk)) (by decide), ?_⟩)
    walk_at "q"
    rw [(kind_cut hk).1]
    refine q_ifb (fun h => ?_) (fun h => ?_)
    · rw [if_pos h] at eh
      walk_at "q"
      refine q_ixRT hx eG rfl (fun v3 h3 => ?_)
      walk_at "q"
      refine q_ixRL h3 eG (wok.atL hc) (fun v4 h4 => ?_)
      walk_at "q"
      refine q_slTo (k := 1) (b := false) h4 eG (fun G2 H2 p2 g2 r2 => ?_)
      refine q G2 H2 _ g2 ?_
      rw [eh, rowL, List.map_take]
      exact r2
    · rw [if_neg (by rw [h]; decide)] at eh
      walk_at "q"
      refine q_ixRT hx eG rfl (fun v3 h3 => ?_)
      walk_at "q"
      refine q_ixRL h3 eG (wok.atL hc) (fun v4 h4 => ?_)
      refine q G _ _ (Gro.refl eG) ?_
      rw [eh]
      exact h4
end
end Cw

set_option maxHeartbeats 4000000
namespace Cw
open PySem PySem.Spec PyProof.Rows L2
section
variable {P : Program} {w : World} {K : PySem.W.Frag} {mg : Str → Option Value} {base : Heap}
abbrev s__law_possible : Stmt := topS 67
abbrev N__law_possible : List Str := ["net", "world", "found", "r", "process", "state", "act", "then", "c", "one"]
theorem sc__law_possible : FnScope N__law_possible ["net", "world"] (defScope s__law_possible) := ⟨rfl, rfl, rfl, by decide +kernel, rfl, by decide +kernel, by decide +kernel⟩
theorem c_dposs {f : Addr} {fd : FuncData} (F : FnP K "_law_possible" s__law_possible f fd) (hm : mg "_law_possible" = some (.ref f)) (B : Blt mg) (C__law_first : Cal P w K mg base 1 "_law_first" ["net", "world", "c"] (sp_first K)) : Cal P w K mg base 2 "_law_possible" ["net", "world"] (sp_dposs K) := by
  refine cal_of F hm sc__law_possible (fun _ _ _ _ _ _ _ us hl => match us, hl with | [_, _], _ => rfl) (fun vs H Q E h => ?_) (fun cdv A outer s H vs Q E hr h => ?_)
  · obtain ⟨_, _, _, _, _, _, rfl, _⟩ := h
    rfl
  · obtain ⟨G, n, M, x, W, BB, rfl, eG, hN, ok, hx, wok, hB, q⟩ := h
    have nd := sc__law_possible.nd
    have bR : ∀ i, i ≤ M.R.length → (((List.range i).map (ruleM M W)).flatten).length ≤ 40 * 1001 := fun i hi => by
      have h1 := len_flat (ruleM M W) 1001 (List.range i) fun r _ => by have := rule_len wok r; omega
      rw [List.length_range] at h1
      have := ok.lr
      exact Nat.le_trans h1 (Nat.mul_le_mul_right _ (by omega))
    have bC : ∀ i, i ≤ M.C.length → (((List.range i).map (lossesM M W)).flatten).length ≤ 8 * 1000 := fun i hi => by
      have h1 := len_flat (lossesM M W) 1000 (List.range i) fun r _ => by have := losses_len wok r; omega
      rw [List.length_range] at h1
      have := ok.lc
      exact Nat.le_trans h1 (Nat.mul_le_mul_right _ (by omega))
    refine ⟨_, [some _, some _, none, none, none, none, none, none, none, none], ((pss_cons (ps_set (i := 2) nd rfl (Or.inl rfl) (pe_lst pa_nil))
      (pss_cons (ps_for PassesOwn.never rfl (pi_range1 (by rfl) B.range_ (pa_cons (pe_callB (call_lenK (K := K) rfl) (by rfl) B.len_ bo_len (pa_cons (pe_dget (hu1 hr) (pv 0) pe_str (fun _ _ => rfl)) pa_nil)) pa_nil)) (pg_name (i := 3) nd rfl (Or.inr rfl)) (pss_cons (ps_asg (pe_ix (ix_seqK (K := K) rfl) (pe_dget (hu1 hr) (pv 0) pe_str (fun _ _ => rfl)) (pv 3) (fun _ _ => rfl)) (pg_seqK (K := K) (n := 4) rfl rfl (pgs_cons (pg_name (i := 4) nd rfl (by first | exact Or.inl rfl | exact Or.inr rfl)) (pgs_cons (pg_name (i := 5) nd rfl (by first | exact Or.inl rfl | exact Or.inr rfl)) (pgs_cons (pg_name (i := 6) nd rfl (Or.inr rfl)) (pgs_cons (pg_name (i := 7) nd rfl (by first | exact Or.inl rfl | exact Or.inr rfl)) pgs_nil))))))
      (pss_one (ps_if (PW.pt (pw_and (pt_cmpR (op_eqK (K := K) rfl (hu64 hr)) (pe_ix (ix_seqK (K := K) rfl) (pe_ix (ix_seqK (K := K) rfl) (pv 1) pe_int (fun _ _ => rfl)) (pv 4) (fun _ _ => rfl)) (pv 5) (nomark _)) (pw_and1 (pt_cmpR (op_neK (K := K) rfl (hu64 hr)) (pe_ix (ix_seqK (K := K) rfl) (pv 6) pe_int (fun _ _ => rfl)) pe_str (nomark _))))) (pss_one (ps_expr (pe_bmK (K := K) rfl PySem.F.plainAttrs_list PySem.F.slot_list_append PySem.F.type_list_append mt_append (pv 2) (pa_cons (pe_tup (pa_cons pe_str (pa_cons (pv 3) pa_nil))) pa_nil)))) (pss_one (ps_if (pt_cmpR (op_eqK (K := K) rfl (hu64 hr)) (pe_ix (ix_seqK (K := K) rfl) (pe_ix (ix_seqK (K := K) rfl) (pv 1) pe_int (fun _ _ => rfl)) (pv 4) (fun _ _ => rfl)) (pv 5) (nomark _)) (pss_one (ps_set (i := 2) nd rfl (Or.inl rfl) (pe_op (op_addK (K := K) rfl) (pv 2) (pe_lc (own := [("one", 9)]) rfl nd (pi_seqK (K := K) rfl (pe_callC C__law_first (hr.mono (by omega)) (by rfl) (pa_cons (pv 0) (pa_cons (pv 1) (pa_cons (pe_ix (ix_seqK (K := K) rfl) (pv 6) pe_int (fun _ _ => rfl)) pa_nil))))) (blkOk_by (N := N__law_possible) (sc := defScope s__law_possible) (by decide +kernel)) (fun _ _ _ _ _ => (pg_name (i := 9) nd rfl (by first | exact Or.inl rfl | exact Or.inr rfl))) (fun _ _ _ _ _ => (pts_one (pt_cmpR (op_eqK (K := K) rfl (hu64 hr)) (pe_ix (ix_seqK (K := K) rfl) (pv 9) pe_int (fun _ _ => rfl)) (pe_ix (ix_seqK (K := K) rfl) (pv 6) pe_int (fun _ _ => rfl)) (nomark _)))) (fun _ _ _ _ _ => (pe_tup (pa_cons pe_str (pa_cons (pv 3) (pa_cons (pe_ix (ix_seqK (K := K) rfl) (pv 9) pe_int (fun _ _ => rfl)) pa_nil))))))))) pss_nil))))))
      (pss_cons (ps_for PassesOwn.never rfl (pi_range1 (by rfl) B.range_ (pa_cons (pe_callB (call_lenK (K := K) rfl) (by rfl) B.len_ bo_len (pa_cons (pe_dget (hu1 hr) (pv 0) pe_str (fun _ _ => rfl)) pa_nil)) pa_nil)) (pg_name (i := 8) nd rfl (Or.inr rfl)) (pss_one (ps_if (pt_cmpR (op_eqK (K := K) rfl (hu64 hr)) (pe_slice (sl_anyK (K := K) rfl) (pe_ix (ix_seqK (K := K) rfl) (pe_ix (ix_seqK (K := K) rfl) (pe_dget (hu1 hr) (pv 0) pe_str (fun _ _ => rfl)) (pv 8) (fun _ _ => rfl)) pe_int (fun _ _ => rfl)) (po_some (pe_un un_neg pe_int)) po_none) pe_str (nomark _)) (pss_one (ps_set (i := 2) nd rfl (Or.inl rfl) (pe_op (op_addK (K := K) rfl) (pv 2) (pe_lc (own := [("one", 9)]) rfl nd (pi_seqK (K := K) rfl (pe_callC C__law_first (hr.mono (by omega)) (by rfl) (pa_cons (pv 0) (pa_cons (pv 1) (pa_cons (pv 8) pa_nil))))) (blkOk_by (N := N__law_possible) (sc := defScope s__law_possible) (by decide +kernel)) (fun _ _ _ _ _ => (pg_name (i := 9) nd rfl (by first | exact Or.inl rfl | exact Or.inr rfl))) (fun _ _ _ _ _ => pts_nil) (fun _ _ _ _ _ => (pe_tup (pa_cons pe_str (pa_cons (pv 8) (pa_cons (pe_ix (ix_seqK (K := K) rfl) (pv 9) pe_int (fun _ _ => rfl)) pa_nil))))))))) pss_nil)))
      (pss_one (ps_ret (pv 2))))))), rfl, ?_⟩
    walk_at "q"
    rename_i l0 hl0
    have a0 : Acc l0 G H G _ [] := Acc.first eG hl0
    have w0 := a0.w
    generalize L2.upd H l0 (.lst []) = H0 at a0 w0 ⊢
    refine q_nlR hN w0 (fun pr0 hpr0 => ?_)
    walk_at "q"
    rw [List.length_map]
    refine q_rng1 M.R.length (by have := ok.lr; omega) (fun i σ' H' => ∃ z3 z4 z5 z6 z7 l vs G', σ' = [some (.ref n), some x, some (.ref l), z3, z4, z5, z6, z7, none, none] ∧ Acc l G H G' H' vs ∧ Rps K G' vs ((((List.range i).map (ruleM M W)).flatten).map Deed.d)) ⟨none, none, none, none, none, l0, [], G, rfl, a0, .nil⟩ ?_ ?_
    · rintro i σ' H' hi ⟨z3, z4, z5, z6, z7, l, vs, G', rfl, ac, hr1⟩
      have w1 := ac.w
      have hl1 := ac.hl
      have eg := ac.gr.g
      have er := rule_gives (W := W) hi
      obtain ⟨hp, hcc⟩ := ok.ru _ (List.getElem_mem hi)
      have hps : M.R[i].p < W.s.length := by rw [wok.ls]; exact hp
      have l1 := bR i (by omega)
      have l2 := rule_len wok i
      walk_at "q"
      refine q_nlR (hN.mono eg) w1 (fun pr hpr => ?_)
      walk_at "q"
      refine q_ixRL hpr w1 (MN.rule hi) (fun v3 h3 => ?_)
      refine q_gSeq h3 (.inr rfl) w1 rfl (fun us hus => ?_)
      obtain ⟨u1, u2, u3, u4, rfl, k1, k2, k3, k4⟩ := rps4 hus
      obtain rfl := rp_nD k1
      obtain rfl := rp_nD k2
      walk_at "q"
      refine q_ixRT (hx.mono eg) w1 rfl (fun v4 h4 => ?_)
      walk_at "q"
      refine q_ixRL h4 w1 (at_map hps) (fun v6 h6 => ?_)
      obtain rfl := rp_nD h6
      walk_at "q"
      refine q_ifd (fun h => ?_) (fun h => ?_)
      · have h' : W.s[M.R[i].p] = M.R[i].s := by omega
        rw [if_pos (by rw [List.getElem?_eq_getElem hps, h'])] at er
        walk_at "q"
        generalize ea : M.R[i].a = ac0 at er hcc k3
        cases ac0 with
        | do_ =>
          have er2 : ruleM M W i = [.act i] := er
          refine q_ixRT k3 w1 (atI_nat (j := 0) rfl) (fun v9 h9 => ?_)
          cases h9
          walk_at "q"
          rename_i pa hpa
          refine q_append (upd_old hl1 hpa) (line_lt (by rw [hr1.len, List.length_map]; omega)) ?_
          have g2 := Gro.new (o := .tup [.str "act", .int (i : Int)]) w1 hpa
          refine ⟨_, _, _, _, _, l, _, _, rfl, (ac.gro g2).put, ?_⟩
          rw [flat_next, List.map_append, er2]
          exact (hr1.mono g2.g).app (Rps.one (.tup (.inl (.inl upd_same)) (.cons (.str _) (.cons (.int _) .nil))))
        | send c k =>
          have er2 : ruleM M W i = [.act i] := er
          refine q_ixRT k3 w1 (atI_nat (j := 0) rfl) (fun v9 h9 => ?_)
          cases h9
          walk_at "q"
          rename_i pa hpa
          refine q_append (upd_old hl1 hpa) (line_lt (by rw [hr1.len, List.length_map]; omega)) ?_
          have g2 := Gro.new (o := .tup [.str "act", .int (i : Int)]) w1 hpa
          refine ⟨_, _, _, _, _, l, _, _, rfl, (ac.gro g2).put, ?_⟩
          rw [flat_next, List.map_append, er2]
          exact (hr1.mono g2.g).app (Rps.one (.tup (.inl (.inl upd_same)) (.cons (.str _) (.cons (.int _) .nil))))
        | take c k =>
          have er2 : ruleM M W i = takesM M W i c k := er
          have hcl := hcc c k (.inr rfl)
          refine q_ixRT k3 w1 (atI_nat (j := 0) rfl) (fun v9 h9 => ?_)
          cases h9
          walk_at "q"
          refine q_ixRT (hx.mono eg) w1 rfl (fun v4 h4 => ?_)
          walk_at "q"
          refine q_ixRL h4 w1 (at_map hps) (fun v6 h6 => ?_)
          obtain rfl := rp_nD h6
          walk_at "q"
          refine q_lcL ?_
          walk_at "q"
          refine q_ixRT k3 w1 (atI_nat (j := 1) rfl) (fun v10 h10 => ?_)
          cases h10
          walk_at "q"
          refine ⟨G', n, M, x, W, BB, c, rfl, w1, hN.mono eg, ok, hx.mono eg, wok, hcl, fun G2 H2 p2 g2 r2 => ?_⟩
          refine q_fmL (h := msgD true) (f := fun m => if decide (m.2 = k) then some (Deed.take i m.1).d else none) r2 g2.w (by have := hand_len M W c; have := wok.row c; omega) (fun j m u3 G3 H3 hm' gr3 ru C N yes no => ?_) (fun G3 H3 D g3 hD r3 => ?_)
          · have w3 := gr3.w
            walk_at "q"
            refine ⟨rfl, ?_⟩
            walk_at "q"
            refine q_ixRT ru w3 (atI_nat (j := 1) rfl) (fun u5 hu5 => ?_)
            obtain rfl := rp_nD hu5
            walk_at "q"
            refine q_ixRT (k3.mono (g2.g.trans gr3.g)) w3 (atI_nat (j := 2) rfl) (fun u6 hu6 => ?_)
            cases hu6
            walk_at "q"
            refine q_ifd (fun h7 => ?_) (fun h7 => ?_)
            · have hk : m.2 = k := by omega
              walk_at "q"
              refine q_ixRT ru w3 (atI_nat (j := 0) rfl) (fun u7 hu7 => ?_)
              obtain rfl := rp_nD hu7
              walk_at "q"
              rename_i p hp
              exact yes _ _ _ _ (by rw [hk]; simp; rfl) (Gro.new w3 hp) (.tup (.inl (.inl upd_same)) (.cons (.str _) (.cons (.int _) (.cons (.int _) .nil))))
            · walk_at "q"
              exact no _ _ (by rw [if_neg]; simp; omega) (Gro.refl w3)
          · rw [fm_filt] at r3
            obtain ⟨al, zs, e, hL, hz⟩ := rp_lst r3
            cases e
            obtain ⟨c1, c2, c3, c4⟩ := one_step ac hr1 (g2.trans0 g3) hL hz (by rw [List.length_map, List.length_map]; have := takes_len wok i c k; rw [takesM, List.length_map] at this; omega)
            refine q_cat c1 c2 c3 (fun p hp => ?_)
            obtain ⟨c5, c6⟩ := c4 p hp
            refine ⟨_, _, _, _, _, p, _, _, rfl, c5, ?_⟩
            rw [flat_next, List.map_append, er2, takesM, List.map_map]
            exact c6
      · rw [if_neg (by rw [List.getElem?_eq_getElem hps]; intro z; exact h (by have := Option.some.inj z; omega))] at er
        walk_at "q"
        refine q_ixRT (hx.mono eg) w1 rfl (fun v4 h4 => ?_)
        walk_at "q"
        refine q_ixRL h4 w1 (at_map hps) (fun v6 h6 => ?_)
        obtain rfl := rp_nD h6
        walk_at "q"
        refine ⟨_, _, _, _, _, l, vs, G', rfl, ac, ?_⟩
        rw [flat_next, er, List.append_nil]
        exact hr1
    · rintro σ' H' ⟨z3, z4, z5, z6, z7, l, vs, G', rfl, ac, hr1⟩
      have w1 := ac.w
      have eg := ac.gr.g
      walk_at "q"
      refine q_nlC (hN.mono eg) w1 (fun pc hpc => ?_)
      walk_at "q"
      rw [List.length_map]
      refine q_rng1 M.C.length (by have := ok.lc; omega) (fun i σ' H' => ∃ z3 z4 z5 z6 z7 z8 l vs G', σ' = [some (.ref n), some x, some (.ref l), z3, z4, z5, z6, z7, z8, none] ∧ Acc l G H G' H' vs ∧ Rps K G' vs ((((List.range M.R.length).map (ruleM M W)).flatten ++ ((List.range i).map (lossesM M W)).flatten).map Deed.d)) ⟨_, _, _, _, _, none, l, vs, G', rfl, ac, by simpa using hr1⟩ ?_ ?_
      · clear hr1 ac w1 eg hpc
        rintro i σ' H' hi ⟨z3, z4, z5, z6, z7, z8, l, vs, G', rfl, ac, hr1⟩
        have w1 := ac.w
        have eg := ac.gr.g
        have hk := kind_mem ok hi
        rw [kindM_at hi] at hk
        have l1 := bR M.R.length (Nat.le_refl _)
        have l2 := bC i (by omega)
        walk_at "q"
        refine q_nlC (hN.mono eg) w1 (fun pc hpc => ?_)
        walk_at "q"
        refine q_ixRL hpc w1 (MN.chan hi) (fun v2 h2 => ?_)
        walk_at "q"
        refine q_ixRT h2 w1 (atI_nat (j := 3) rfl) (fun v3 h3 => ?_)
        obtain rfl := rp_str h3
        walk_at "q"
        refine .inr (.inr ⟨_, rfl, Nat.le_trans (shp_str (kind_shp hk)) (by decide), ?_⟩)
        walk_at "q"
        rw [(kind_cut hk).2]
        refine q_ifb (fun h => ?_) (fun h => ?_)
        · walk_at "q"
          refine q_lcL ?_
          walk_at "q"
          refine ⟨G', n, M, x, W, BB, i, rfl, w1, hN.mono eg, ok, hx.mono eg, wok, hi, fun G2 H2 p2 g2 r2 => ?_⟩
          refine q_fmL (h := msgD true) (f := fun m => some (Deed.lose i m.1).d) r2 g2.w (by have := hand_len M W i; have := wok.row i; omega) (fun j m u3 G3 H3 hm' gr3 ru C N yes no => ?_) (fun G3 H3 D g3 hD r3 => ?_)
          · have w3 := gr3.w
            walk_at "q"
            refine ⟨rfl, ?_⟩
            walk_at "q"
            refine q_ixRT ru w3 (atI_nat (j := 0) rfl) (fun u6 hu6 => ?_)
            obtain rfl := rp_nD hu6
            walk_at "q"
            rename_i p hp
            exact yes _ _ _ _ rfl (Gro.new w3 hp) (.tup (.inl (.inl upd_same)) (.cons (.str _) (.cons (.int _) (.cons (.int _) .nil))))
          · rw [fm_map, show ((hand M W i).map fun m => (Deed.lose i m.1).d) = (lossesM M W i).map Deed.d from by rw [lossesM, kindM_at hi, if_pos h, List.map_map]; rfl] at r3
            obtain ⟨al, zs, e, hL, hz⟩ := rp_lst r3
            cases e
            obtain ⟨c1, c2, c3, c4⟩ := one_step ac hr1 (g2.trans0 g3) hL hz (by rw [List.length_map, List.length_map, List.length_append]; have := losses_len wok i; omega)
            refine q_cat c1 c2 c3 (fun p hp => ?_)
            obtain ⟨c5, c6⟩ := c4 p hp
            refine ⟨_, _, _, _, _, _, p, _, _, rfl, c5, ?_⟩
            rw [flat_next, ← List.append_assoc, List.map_append]
            exact c6
        · walk_at "q"
          refine ⟨_, _, _, _, _, _, l, vs, G', rfl, ac, ?_⟩
          rw [flat_next, ← List.append_assoc, show lossesM M W i = [] from by unfold lossesM; rw [kindM_at hi, if_neg (by rw [h]; decide)], List.append_nil]
          exact hr1
      · rintro σ' H' ⟨z3, z4, z5, z6, z7, z8, l, vs, G', rfl, ac, hr1⟩
        walk_at "q"
        exact q _ _ l ac.know (.lst upd_same (hr1.mono (Ex.new ac.gl)))
end
end Cw

set_option maxHeartbeats 4000000
namespace Cw
open PySem PySem.Spec PyProof.Rows L2
section
variable {P : Program} {w : World} {K : PySem.W.Frag} {mg : Str → Option Value} {base : Heap}
abbrev s__law_done : Stmt := topS 69
abbrev N__law_done : List Str := ["net", "world", "deed", "states", "sent", "present", "process", "state", "act", "then", "row", "one"]
theorem sc__law_done : FnScope N__law_done ["net", "world", "deed"] (defScope s__law_done) := ⟨rfl, rfl, rfl, by decide +kernel, rfl, by decide +kernel, by decide +kernel⟩
theorem c_ddone {f : Addr} {fd : FuncData} (F : FnP K "_law_done" s__law_done f fd) (hm : mg "_law_done" = some (.ref f)) (B : Blt mg) : Cal P w K mg base 1 "_law_done" ["net", "world", "deed"] (sp_ddone K) := by
  refine cal_of F hm sc__law_done (fun _ _ _ _ _ _ _ us hl => match us, hl with | [_, _, _], _ => rfl) (fun vs H Q E h => ?_) (fun cdv A outer s H vs Q E hr h => ?_)
  · obtain ⟨_, _, _, _, _, _, _, _, rfl, _⟩ := h
    rfl
  · obtain ⟨G, n, M, x, y, W, BB, D, rfl, eG, hN, ok, hx, wok, hB, hd, dv, q⟩ := h
    have nd := sc__law_done.nd
    have lp := ok.lp
    have lc := ok.lc
    refine ⟨_, [some _, some _, some _, none, none, none, none, none, none, none, none, none], ((pss_cons (ps_set (i := 3) nd rfl (Or.inl rfl) (pe_callTy (call_listK (K := K) rfl) (by rfl) B.list_ bo_list (pa_cons (pe_ix (ix_seqK (K := K) rfl) (pv 1) pe_int (fun _ _ => rfl)) pa_nil)))
      (pss_cons (ps_set (i := 4) nd rfl (Or.inl rfl) (pe_callTy (call_listK (K := K) rfl) (by rfl) B.list_ bo_list (pa_cons (pe_ix (ix_seqK (K := K) rfl) (pv 1) pe_int (fun _ _ => rfl)) pa_nil)))
      (pss_cons (ps_setLc (i := 5) (own := [("row", 10)]) rfl nd rfl rfl (sw_true rfl rfl rfl (by decide +kernel)) (pi_seqK (K := K) rfl (pe_ix (ix_seqK (K := K) rfl) (pv 1) pe_int (fun _ _ => rfl))) (blkOk_by (N := N__law_done) (sc := defScope s__law_done) (by decide +kernel)) (fun _ _ _ _ _ => (pg_name (i := 10) nd rfl (by first | exact Or.inl rfl | exact Or.inr rfl))) (fun _ _ _ _ _ => pts_nil) (fun _ _ _ _ _ => (pe_callTy (call_listK (K := K) rfl) (by rfl) B.list_ bo_list (pa_cons (pv 10) pa_nil))))
      (pss_cons (ps_if (pt_cmpR (op_eqK (K := K) rfl (hu64 hr)) (pe_ix (ix_seqK (K := K) rfl) (pv 2) pe_int (fun _ _ => rfl)) pe_str (nomark _)) (pss_cons (ps_asg (pe_lc (own := [("one", 11)]) rfl nd (pi_seqK (K := K) rfl (pe_ix (ix_seqK (K := K) rfl) (pv 5) (pe_ix (ix_seqK (K := K) rfl) (pv 2) pe_int (fun _ _ => rfl)) (fun _ _ => rfl))) (blkOk_by (N := N__law_done) (sc := defScope s__law_done) (by decide +kernel)) (fun _ _ _ _ _ => (pg_name (i := 11) nd rfl (by first | exact Or.inl rfl | exact Or.inr rfl))) (fun _ _ _ _ _ => (pts_one (pt_cmpR (op_neK (K := K) rfl (hu64 hr)) (pe_ix (ix_seqK (K := K) rfl) (pv 11) pe_int (fun _ _ => rfl)) (pe_ix (ix_seqK (K := K) rfl) (pv 2) pe_int (fun _ _ => rfl)) (nomark _)))) (fun _ _ _ _ _ => (pv 11))) (pg_sub (pv 5) (pe_ix (ix_seqK (K := K) rfl) (pv 2) pe_int (fun _ _ => rfl)) set_list))
      (pss_one (ps_ret (pe_tup (pa_cons (pv 3) (pa_cons (pv 4) (pa_cons (pv 5) pa_nil))))))) pss_nil)
      (pss_cons (ps_asg (pe_ix (ix_seqK (K := K) rfl) (pe_dget (hu1 hr) (pv 0) pe_str (fun _ _ => rfl)) (pe_ix (ix_seqK (K := K) rfl) (pv 2) pe_int (fun _ _ => rfl)) (fun _ _ => rfl)) (pg_seqK (K := K) (n := 4) rfl rfl (pgs_cons (pg_name (i := 6) nd rfl (by first | exact Or.inl rfl | exact Or.inr rfl)) (pgs_cons (pg_name (i := 7) nd rfl (by first | exact Or.inl rfl | exact Or.inr rfl)) (pgs_cons (pg_name (i := 8) nd rfl (by first | exact Or.inl rfl | exact Or.inr rfl)) (pgs_cons (pg_name (i := 9) nd rfl (by first | exact Or.inl rfl | exact Or.inr rfl)) pgs_nil))))))
      (pss_cons (ps_asg (pv 9) (pg_sub (pv 3) (pv 6) set_list))
      (pss_cut (ps_if (pt_cmpR (op_eqK (K := K) rfl (hu64 hr)) (pe_ix (ix_seqK (K := K) rfl) (pv 8) pe_int (fun _ _ => rfl)) pe_str (nomark _)) (pss_cons (ps_asg (pe_op (op_addK (K := K) rfl) (pe_ix (ix_seqK (K := K) rfl) (pv 5) (pe_ix (ix_seqK (K := K) rfl) (pv 8) pe_int (fun _ _ => rfl)) (fun _ _ => rfl)) (pe_lst (pa_cons (pe_tup (pa_cons (pe_ix (ix_seqK (K := K) rfl) (pv 4) (pe_ix (ix_seqK (K := K) rfl) (pv 8) pe_int (fun _ _ => rfl)) (fun _ _ => rfl)) (pa_cons (pe_ix (ix_seqK (K := K) rfl) (pv 8) pe_int (fun _ _ => rfl)) pa_nil))) pa_nil))) (pg_sub (pv 5) (pe_ix (ix_seqK (K := K) rfl) (pv 8) pe_int (fun _ _ => rfl)) set_list))
      (pss_one (ps_asg (pe_op (op_addK (K := K) rfl) (pe_ix (ix_seqK (K := K) rfl) (pv 4) (pe_ix (ix_seqK (K := K) rfl) (pv 8) pe_int (fun _ _ => rfl)) (fun _ _ => rfl)) pe_int) (pg_sub (pv 4) (pe_ix (ix_seqK (K := K) rfl) (pv 8) pe_int (fun _ _ => rfl)) set_list)))) pss_nil)
      (pss_cut (ps_if (pt_cmpR (op_eqK (K := K) rfl (hu64 hr)) (pe_ix (ix_seqK (K := K) rfl) (pv 8) pe_int (fun _ _ => rfl)) pe_str (nomark _)) (pss_one (ps_asg (pe_lc (own := [("one", 11)]) rfl nd (pi_seqK (K := K) rfl (pe_ix (ix_seqK (K := K) rfl) (pv 5) (pe_ix (ix_seqK (K := K) rfl) (pv 8) pe_int (fun _ _ => rfl)) (fun _ _ => rfl))) (blkOk_by (N := N__law_done) (sc := defScope s__law_done) (by decide +kernel)) (fun _ _ _ _ _ => (pg_name (i := 11) nd rfl (by first | exact Or.inl rfl | exact Or.inr rfl))) (fun _ _ _ _ _ => (pts_one (pt_cmpR (op_neK (K := K) rfl (hu64 hr)) (pe_ix (ix_seqK (K := K) rfl) (pv 11) pe_int (fun _ _ => rfl)) (pe_ix (ix_seqK (K := K) rfl) (pv 2) pe_int (fun _ _ => rfl)) (nomark _)))) (fun _ _ _ _ _ => (pv 11))) (pg_sub (pv 5) (pe_ix (ix_seqK (K := K) rfl) (pv 8) pe_int (fun _ _ => rfl)) set_list))) pss_nil)
      (pss_one (ps_ret (pe_tup (pa_cons (pv 3) (pa_cons (pv 4) (pa_cons (pv 5) pa_nil))))))))))))))), rfl, ?_⟩
    walk_at "q"
    refine q_ixRT hx eG rfl (fun x0 k0 => ?_)
    walk_at "q"
    refine q_lstRS k0 (.inl rfl) eG (fun vs1 a hvs1 ha => ?_)
    walk_at "q"
    have e1 := eG.trans (Ex.new (o := .lst vs1) ha)
    refine q_ixRT hx e1 rfl (fun x1 k1 => ?_)
    walk_at "q"
    refine q_lstRS k1 (.inl rfl) e1 (fun vs2 b hvs2 hb => ?_)
    walk_at "q"
    have e2 := e1.trans (Ex.new (o := .lst vs2) hb)
    refine q_lcL ?_
    walk_at "q"
    refine q_ixRT hx e2 rfl (fun x2 k2 => ?_)
    have hab := ne_of_none (H := L2.upd H a (.lst vs1)) upd_same hb
    refine q_lcDL (ds := W.p.map rowL) k2 e2 (by rw [List.length_map, wok.lp]; omega) (R := fun i y G => Rp K G y (optD rowL W.p[i]?)) (fun _ _ _ _ e h => h.mono e) (fun i hi u G' H' gr ru C N hC => ?_) (fun pp ys G3 H3 g3 hpp gpp npp lys hys => ?_)
    · have w1 := gr.w
      have hi' : i < W.p.length := by rw [List.length_map] at hi; exact hi
      rw [List.getElem_map] at ru
      walk_at "q"
      refine ⟨rfl, ?_⟩
      walk_at "q"
      refine q_lstRS ru (.inl rfl) w1 (fun vs4 p4 hvs4 hp4 => ?_)
      have g4 := Gro.new (o := .lst vs4) w1 hp4
      refine hC _ _ _ g4 ?_
      rw [List.getElem?_eq_getElem hi']
      exact .lst upd_same (hvs4.mono g4.g)
    have rP : Rps K G3 ys (W.p.map rowL) := rps_of (by rw [lys, List.length_map]) fun i hi => hys i (by rw [List.length_map]; exact hi)
    have tr : Tri a b pp G H G3 H3 vs1 vs2 ys := by
      have na : (L2.upd (L2.upd H a (.lst vs1)) b (.lst vs2)) a = some (.lst vs1) := upd_old upd_same hb
      have nb : (L2.upd (L2.upd H a (.lst vs1)) b (.lst vs2)) b = some (.lst vs2) := upd_same
      have nn : ∀ {x : Addr} {o : HO}, (L2.upd (L2.upd H a (.lst vs1)) b (.lst vs2)) x = some o → (L2.upd (L2.upd H a (.lst vs1)) b (.lst vs2)) x ≠ none := fun h => by rw [h]; exact fun z => nomatch z
      have gr0 : Gro none G H G (L2.upd (L2.upd H a (.lst vs1)) b (.lst vs2)) := Gro.up eG ((Ex.new ha).trans (Ex.new hb))
      exact ⟨gr0.trans0 g3, g3.n a (nn na) (eG.back ha), g3.n b (nn nb) (e1.back hb), gpp, g3.ex _ _ na, g3.ex _ _ nb, hpp, ha, (Ex.new (o := .lst vs1) ha).back hb, ((Ex.new (o := .lst vs1) ha).trans (Ex.new (o := .lst vs2) hb)).back npp, hab, ne_of_none na npp, ne_of_none nb npp⟩
    have rS : Rps K G3 vs1 (W.s.map nD) := hvs1.mono tr.gr.g
    have rN : Rps K G3 vs2 (W.n.map nD) := hvs2.mono tr.gr.g
    clear g3 hpp gpp npp lys hys e2 e1 hab ha hb hvs1 hvs2 k0 k1 k2
    have fin : ∀ (G1 H1 : Hp) (xs ys zs : List V) (p : Addr) (W' : Wd), Tri a b pp G H G1 H1 xs ys zs → H1 p = none → Rps K G1 xs (W'.s.map nD) → Rps K G1 ys (W'.n.map nD) → Rps K G1 zs (W'.p.map rowL) → stepM M W D = W' → Q (.ref p) (L2.upd H1 p (.tup [.ref a, .ref b, .ref pp])) := fun G1 H1 xs ys zs p W' t hp h1 h2 h3 he => by
      obtain ⟨G2, g2, e2, ka, kb, kc⟩ := t.know
      have g3 := Gro.new (o := .tup [.ref a, .ref b, .ref pp]) g2.w hp
      refine q _ _ p (g2.trans0 g3) ?_
      rw [he]
      exact .tup (.inl (.inl upd_same)) (.cons (.lst (g3.g _ _ ka) (h1.mono (e2.trans g3.g))) (.cons (.lst (g3.g _ _ kb) (h2.mono (e2.trans g3.g))) (.cons (.lst (g3.g _ _ kc) (h3.mono (e2.trans g3.g))) .nil)))
    have w3 := tr.ww
    have eg := tr.gr.g
    have hd3 := hd.mono eg
    have sN : ∀ c : Nat, c < M.C.length → ixN ys.length (c : Int) = some c := fun c hc => ixOf (by rw [rP.len, List.length_map, wok.lp]; exact hc)
    walk_at "q"
    cases D with
    | lose c k =>
      have hc : c < M.C.length := dv
      obtain ⟨yv, hyv, ryv⟩ := rP.get (i := c) (d := rowL (rowM W c)) (by rw [List.getElem?_map, wok.rowAt hc] <;> rfl)
      refine q_ixRT hd3 w3 (atI_nat (j := 0) rfl) (fun u0 hu0 => ?_)
      cases hu0
      walk_at "q"
      refine q_lcL ?_
      walk_at "q"
      refine q_ixRT hd3 w3 (atI_nat (j := 1) rfl) (fun u1 hu1 => ?_)
      obtain rfl := rp_nD hu1
      refine q_ixC tr.hp (atI_nat hyv) ?_
      refine q_fmL (h := msgD true) (f := fun m => if decide (m.1 ≠ k) then some (msgD true m) else none) ryv w3 (by have := wok.row c; omega) (fun j m u3 G4 H4 hm' gr4 ru C N yes no => ?_) (fun G4 H4 D4 g4 hD4 r4 => ?_)
      · have w4 := gr4.w
        walk_at "q"
        refine ⟨rfl, ?_⟩
        walk_at "q"
        refine q_ixRT ru w4 (atI_nat (j := 0) rfl) (fun u5 hu5 => ?_)
        obtain rfl := rp_nD hu5
        walk_at "q"
        refine q_ixRT (hd3.mono gr4.g) w4 (atI_nat (j := 2) rfl) (fun u6 hu6 => ?_)
        obtain rfl := rp_nD hu6
        walk_at "q"
        refine q_ifnd (fun h => ?_) (fun h => ?_)
        · walk_at "q"
          exact yes _ _ _ _ (by rw [if_pos]; simp; omega) (Gro.refl w4) ru
        · walk_at "q"
          exact no _ _ (by rw [if_neg]; simp; omega) (Gro.refl w4)
      rw [fm_filt] at r4
      have tr4 := tr.gro g4
      have w4 := tr4.ww
      walk_at "q"
      refine q_ixRT (hd3.mono g4.g) w4 (atI_nat (j := 1) rfl) (fun u7 hu7 => ?_)
      obtain rfl := rp_nD hu7
      refine q_set tr4.hp (sN c hc) ?_
      walk_at "q"
      rename_i p9 hp9
      refine fin _ _ _ _ _ p9 ⟨W.s, W.n, gone W c k⟩ tr4.putC hp9 (rS.mono g4.g) (rN.mono g4.g) ?_ rfl
      show Rps K G4 _ ((W.p.set c _).map rowL)
      rw [List.map_set]
      exact Rps.set r4 c (rP.mono g4.g)
    | act r =>
      obtain ⟨ac, ha, hnt⟩ := dv
      cases ac with
      | take c k => exact absurd rfl (hnt c k)
      | do_ =>
        obtain ⟨hr, ea⟩ : ∃ h : r < M.R.length, M.R[r].a = .do_ := by
          cases e : M.R[r]? with
          | none =>
            rw [e] at ha
            cases ha
          | some R =>
            obtain ⟨h1, h2⟩ := List.getElem?_eq_some_iff.mp e
            rw [e] at ha
            exact ⟨h1, by rw [h2]; exact Option.some.inj ha⟩
        obtain ⟨hp, hcc⟩ := ok.ru _ (List.getElem_mem hr)
        have hps : M.R[r].p < W.s.length := by rw [wok.ls]; exact hp
        refine q_ixRT hd3 w3 (atI_nat (j := 0) rfl) (fun u0 hu0 => ?_)
        cases hu0
        walk_at "q"
        refine q_nlR (hN.mono eg) w3 (fun pr hpr => ?_)
        walk_at "q"
        refine q_ixRT hd3 w3 (atI_nat (j := 1) rfl) (fun u1 hu1 => ?_)
        obtain rfl := rp_nD hu1
        refine q_ixRL hpr w3 (MN.rule hr) (fun v3 h3 => ?_)
        refine q_gSeq h3 (.inr rfl) w3 rfl (fun us hus => ?_)
        obtain ⟨u2, u3, u4, u5, rfl, k1, k2, k3, k4⟩ := rps4 hus
        obtain rfl := rp_nD k1
        rw [ea] at k3 hcc
        walk_at "q"
        refine q_set tr.ha (ixOf (by rw [rS.len, List.length_map]; exact hps)) ?_
        have tr1 := tr.putA (ws := vs1.set M.R[r].p u5)
        have w1 := tr1.ww
        have rS1 : Rps K G3 (vs1.set M.R[r].p u5) ((W.s.set M.R[r].p M.R[r].t).map nD) := by
          rw [List.map_set]
          exact Rps.set k4 _ rS
        generalize L2.upd H3 a (.lst (vs1.set M.R[r].p u5)) = H1 at tr1 w1 ⊢
        walk_at "q"
        refine q_cutId ?_
        walk_at "q"
        refine q_ixRT k3 w1 (atI_nat (j := 0) rfl) (fun u6 hu6 => ?_)
        cases hu6
        walk_at "q"
        refine q_cutId ?_
        walk_at "q"
        refine q_ixRT k3 w1 (atI_nat (j := 0) rfl) (fun u6 hu6 => ?_)
        cases hu6
        walk_at "q"
        rename_i p9 hp9
        exact fin _ _ _ _ _ p9 ⟨W.s.set M.R[r].p M.R[r].t, W.n, W.p⟩ tr1 hp9 rS1 rN rP (by simp [stepM, hr, ea])
      | send c k =>
        obtain ⟨hr, ea⟩ : ∃ h : r < M.R.length, M.R[r].a = (.send c k) := by
          cases e : M.R[r]? with
          | none =>
            rw [e] at ha
            cases ha
          | some R =>
            obtain ⟨h1, h2⟩ := List.getElem?_eq_some_iff.mp e
            rw [e] at ha
            exact ⟨h1, by rw [h2]; exact Option.some.inj ha⟩
        obtain ⟨hp, hcc⟩ := ok.ru _ (List.getElem_mem hr)
        have hps : M.R[r].p < W.s.length := by rw [wok.ls]; exact hp
        refine q_ixRT hd3 w3 (atI_nat (j := 0) rfl) (fun u0 hu0 => ?_)
        cases hu0
        walk_at "q"
        refine q_nlR (hN.mono eg) w3 (fun pr hpr => ?_)
        walk_at "q"
        refine q_ixRT hd3 w3 (atI_nat (j := 1) rfl) (fun u1 hu1 => ?_)
        obtain rfl := rp_nD hu1
        refine q_ixRL hpr w3 (MN.rule hr) (fun v3 h3 => ?_)
        refine q_gSeq h3 (.inr rfl) w3 rfl (fun us hus => ?_)
        obtain ⟨u2, u3, u4, u5, rfl, k1, k2, k3, k4⟩ := rps4 hus
        obtain rfl := rp_nD k1
        rw [ea] at k3 hcc
        walk_at "q"
        refine q_set tr.ha (ixOf (by rw [rS.len, List.length_map]; exact hps)) ?_
        have tr1 := tr.putA (ws := vs1.set M.R[r].p u5)
        have w1 := tr1.ww
        have rS1 : Rps K G3 (vs1.set M.R[r].p u5) ((W.s.set M.R[r].p M.R[r].t).map nD) := by
          rw [List.map_set]
          exact Rps.set k4 _ rS
        generalize L2.upd H3 a (.lst (vs1.set M.R[r].p u5)) = H1 at tr1 w1 ⊢
        walk_at "q"
        have hcl := hcc c k (.inl rfl)
        have hcn : c < W.n.length := by rw [wok.ln]; exact hcl
        have egn : W.n.getD c 0 = W.n[c] := by rw [List.getD_eq_getElem?_getD, List.getElem?_eq_getElem hcn] <;> rfl
        obtain ⟨yv, hyv, ryv⟩ := rP.get (i := c) (d := rowL (rowM W c)) (by rw [List.getElem?_map, wok.rowAt hcl] <;> rfl)
        obtain ⟨nv, hnv, rnv⟩ := rN.get (i := c) (d := nD W.n[c]) (by rw [List.getElem?_map, List.getElem?_eq_getElem hcn] <;> rfl)
        obtain rfl := rp_nD rnv
        refine q_cutId ?_
        walk_at "q"
        refine q_ixRT k3 w1 (atI_nat (j := 0) rfl) (fun u6 hu6 => ?_)
        cases hu6
        walk_at "q"
        refine q_ixRT k3 w1 (atI_nat (j := 1) rfl) (fun u7 hu7 => ?_)
        cases hu7
        refine q_ixC tr1.hp (atI_nat hyv) ?_
        walk_at "q"
        refine q_ixRT k3 w1 (atI_nat (j := 1) rfl) (fun u7 hu7 => ?_)
        cases hu7
        refine q_ixC tr1.hb (atI_nat hnv) ?_
        walk_at "q"
        refine q_ixRT k3 w1 (atI_nat (j := 2) rfl) (fun u8 hu8 => ?_)
        cases hu8
        walk_at "q"
        rename_i pt hpt pl hpl
        obtain ⟨al, zs, e, hL, hz⟩ := rp_lst ryv
        cases e
        have hlz : zs.length ≤ 1000 := by rw [hz.len, List.length_map]; have := wok.row c; omega
        refine q_cat (upd_old (upd_old (w1 _ _ hL) hpt) hpl) upd_same (by exact Nat.le_trans (show _ ≤ 2000 by simp only [List.length_cons, List.length_nil]; omega) (by decide)) (fun pn hpn => ?_)
        have g4 : Gro none G3 H1 (L2.upd G3 pt (.tup [.int (W.n[c] : Int), .int (k : Int)])) (L2.upd H1 pt (.tup [.int (W.n[c] : Int), .int (k : Int)])) := Gro.new w1 hpt
        have g5 := g4.trans0 (Gro.up g4.w (Ex.new (o := .lst [.ref pt]) hpl))
        have g6 := g5.trans0 (Gro.new (o := .lst (zs ++ [.ref pt])) g5.w hpn)
        have rn : Rp K (L2.upd (L2.upd G3 pt (.tup [.int (W.n[c] : Int), .int (k : Int)])) pn (.lst (zs ++ [.ref pt]))) (.ref pn) (rowL (rowM W c ++ [(W.n[c], k)])) := by
          have x5 := Ex.new (o := .lst (zs ++ [.ref pt])) (g5.w.back hpn)
          rw [rowL, List.map_append]
          exact .lst upd_same ((hz.mono (g4.g.trans x5)).app (Rps.one (Rp.mono x5 (.tup (.inl (.inl upd_same)) (.cons (.int _) (.cons (.int _) .nil))))))
        have tr6 := tr1.gro g6
        have w6 := tr6.ww
        generalize L2.upd (L2.upd G3 pt (.tup [.int (W.n[c] : Int), .int (k : Int)])) pn (.lst (zs ++ [.ref pt])) = G6 at g6 rn tr6 w6
        generalize L2.upd (L2.upd (L2.upd H1 pt (.tup [.int (W.n[c] : Int), .int (k : Int)])) pl (.lst [.ref pt])) pn (.lst (zs ++ [.ref pt])) = H6 at g6 tr6 w6 ⊢
        have k36 := k3.mono g6.g
        clear g5 g4 hpt hpl hpn
        walk_at "q"
        refine q_ixRT k36 w6 (atI_nat (j := 1) rfl) (fun u7 hu7 => ?_)
        cases hu7
        refine q_set tr6.hp (sN c hcl) ?_
        have tr7 := tr6.putC (ws := ys.set c (.ref pn))
        have w7 := tr7.ww
        generalize L2.upd H6 pp (.lst (ys.set c (.ref pn))) = H7 at tr7 w7 ⊢
        walk_at "q"
        refine q_ixRT k36 w7 (atI_nat (j := 1) rfl) (fun u7 hu7 => ?_)
        cases hu7
        refine q_ixC tr7.hb (atI_nat hnv) ?_
        walk_at "q"
        refine q_ixRT k36 w7 (atI_nat (j := 1) rfl) (fun u7 hu7 => ?_)
        cases hu7
        refine q_set tr7.hb (ixOf (by rw [rN.len, List.length_map]; exact hcn)) ?_
        have tr8 := tr7.putB (ws := vs2.set c (.int ((W.n[c] : Int) + 1)))
        have w8 := tr8.ww
        generalize L2.upd H7 b (.lst (vs2.set c (.int ((W.n[c] : Int) + 1)))) = H8 at tr8 w8 ⊢
        walk_at "q"
        refine q_cutId ?_
        walk_at "q"
        refine q_ixRT k36 w8 (atI_nat (j := 0) rfl) (fun u6 hu6 => ?_)
        cases hu6
        walk_at "q"
        rename_i p9 hp9
        refine fin _ _ _ _ _ p9 ⟨W.s.set M.R[r].p M.R[r].t, W.n.set c (W.n[c] + 1), W.p.set c (rowM W c ++ [(W.n[c], k)])⟩ tr8 hp9 (rS1.mono g6.g) ?_ ?_ (by rw [← egn]; simp [stepM, hr, ea])
        · rw [List.map_set]
          exact Rps.set (show Rp K G6 (.int ((W.n[c] : Int) + 1)) (nD (W.n[c] + 1)) from .int _) c (rN.mono g6.g)
        · rw [List.map_set]
          exact Rps.set rn c (rP.mono g6.g)
    | take r k =>
      obtain ⟨c, t, ha⟩ := dv
      obtain ⟨hr, ea⟩ : ∃ h : r < M.R.length, M.R[r].a = (.take c t) := by
        cases e : M.R[r]? with
        | none =>
          rw [e] at ha
          cases ha
        | some R =>
          obtain ⟨h1, h2⟩ := List.getElem?_eq_some_iff.mp e
          rw [e] at ha
          exact ⟨h1, by rw [h2]; exact Option.some.inj ha⟩
      obtain ⟨hp, hcc⟩ := ok.ru _ (List.getElem_mem hr)
      have hps : M.R[r].p < W.s.length := by rw [wok.ls]; exact hp
      refine q_ixRT hd3 w3 (atI_nat (j := 0) rfl) (fun u0 hu0 => ?_)
      cases hu0
      walk_at "q"
      refine q_nlR (hN.mono eg) w3 (fun pr hpr => ?_)
      walk_at "q"
      refine q_ixRT hd3 w3 (atI_nat (j := 1) rfl) (fun u1 hu1 => ?_)
      obtain rfl := rp_nD hu1
      refine q_ixRL hpr w3 (MN.rule hr) (fun v3 h3 => ?_)
      refine q_gSeq h3 (.inr rfl) w3 rfl (fun us hus => ?_)
      obtain ⟨u2, u3, u4, u5, rfl, k1, k2, k3, k4⟩ := rps4 hus
      obtain rfl := rp_nD k1
      rw [ea] at k3 hcc
      walk_at "q"
      refine q_set tr.ha (ixOf (by rw [rS.len, List.length_map]; exact hps)) ?_
      have tr1 := tr.putA (ws := vs1.set M.R[r].p u5)
      have w1 := tr1.ww
      have rS1 : Rps K G3 (vs1.set M.R[r].p u5) ((W.s.set M.R[r].p M.R[r].t).map nD) := by
        rw [List.map_set]
        exact Rps.set k4 _ rS
      generalize L2.upd H3 a (.lst (vs1.set M.R[r].p u5)) = H1 at tr1 w1 ⊢
      walk_at "q"
      have hcl := hcc c t (.inr rfl)
      obtain ⟨yv, hyv, ryv⟩ := rP.get (i := c) (d := rowL (rowM W c)) (by rw [List.getElem?_map, wok.rowAt hcl] <;> rfl)
      refine q_cutId ?_
      walk_at "q"
      refine q_ixRT k3 w1 (atI_nat (j := 0) rfl) (fun u6 hu6 => ?_)
      cases hu6
      walk_at "q"
      refine q_cutId ?_
      walk_at "q"
      refine q_ixRT k3 w1 (atI_nat (j := 0) rfl) (fun u6 hu6 => ?_)
      cases hu6
      walk_at "q"
      refine q_lcL ?_
      walk_at "q"
      refine q_ixRT k3 w1 (atI_nat (j := 1) rfl) (fun u7 hu7 => ?_)
      cases hu7
      refine q_ixC tr1.hp (atI_nat hyv) ?_
      refine q_fmL (h := msgD true) (f := fun m => if decide (m.1 ≠ k) then some (msgD true m) else none) ryv w1 (by have := wok.row c; omega) (fun j m u3 G4 H4 hm' gr4 ru C N yes no => ?_) (fun G4 H4 D4 g4 hD4 r4 => ?_)
      · have w4 := gr4.w
        walk_at "q"
        refine ⟨rfl, ?_⟩
        walk_at "q"
        refine q_ixRT ru w4 (atI_nat (j := 0) rfl) (fun u5 hu5 => ?_)
        obtain rfl := rp_nD hu5
        walk_at "q"
        refine q_ixRT (hd3.mono gr4.g) w4 (atI_nat (j := 2) rfl) (fun u6 hu6 => ?_)
        obtain rfl := rp_nD hu6
        walk_at "q"
        refine q_ifnd (fun h => ?_) (fun h => ?_)
        · walk_at "q"
          exact yes _ _ _ _ (by rw [if_pos]; simp; omega) (Gro.refl w4) ru
        · walk_at "q"
          exact no _ _ (by rw [if_neg]; simp; omega) (Gro.refl w4)
      rw [fm_filt] at r4
      have tr4 := tr1.gro g4
      have w4 := tr4.ww
      walk_at "q"
      refine q_ixRT (k3.mono g4.g) w4 (atI_nat (j := 1) rfl) (fun u7 hu7 => ?_)
      cases hu7
      refine q_set tr4.hp (sN c hcl) ?_
      walk_at "q"
      rename_i p9 hp9
      refine fin _ _ _ _ _ p9 ⟨W.s.set M.R[r].p M.R[r].t, W.n, gone W c k⟩ tr4.putC hp9 (rS1.mono g4.g) (rN.mono g4.g) ?_ (by simp [stepM, hr, ea])
      show Rps K G4 _ ((W.p.set c _).map rowL)
      rw [List.map_set]
      exact Rps.set r4 c (rP.mono g4.g)
end
end Cw

set_option maxHeartbeats 4000000
namespace Cw
open PySem PySem.Spec PyProof.Rows L2
section
variable {P : Program} {w : World} {K : PySem.W.Frag} {mg : Str → Option Value} {base : Heap}
abbrev s__law_same : Stmt := topS 72
abbrev N__law_same : List Str := ["actual", "due", "k"]
theorem sc__law_same : FnScope N__law_same ["actual", "due"] (defScope s__law_same) := ⟨rfl, rfl, rfl, by decide +kernel, rfl, by decide +kernel, by decide +kernel⟩
theorem c_same {f : Addr} {fd : FuncData} (F : FnP K "_law_same" s__law_same f fd) (hm : mg "_law_same" = some (.ref f)) (B : Blt mg) (n : Nat) : Cal P w K mg base (n + 1) "_law_same" ["actual", "due"] (sp_same K n) := by
  induction n with
  | zero => exact cal_never F hm (fun _ _ _ _ _ _ _ us hl => match us, hl with | [_, _], _ => rfl) (fun vs H Q E h => by
      obtain ⟨_, _, _, _, _, _, _, _, h, _⟩ := h
      exact h)
  | succ n C__law_same =>
  refine cal_of F hm sc__law_same (fun _ _ _ _ _ _ _ us hl => match us, hl with | [_, _], _ => rfl) (fun vs H Q E h => ?_) (fun cdv A outer s H vs Q E hr h => ?_)
  · obtain ⟨_, _, _, _, rfl, _⟩ := h
    rfl
  · obtain ⟨G, v, u, d, rfl, eG, hv, hu, hd, q⟩ := h
    have nd := sc__law_same.nd
    refine ⟨_, [some _, some _, none], ((pss_cons (ps_if (pt_val (pe_callB (call_isiQ (K := K) rfl) (by rfl) B.isinstance_ bo_isinstance (pa_cons (pv 1) (pa_cons (pe_bty (by rfl) B.tuple_ bo_tuple) pa_nil)))) (pss_cons (ps_if (PW.pt (pw_or (pt_not (pt_val (pe_callB (call_isiQ (K := K) rfl) (by rfl) B.isinstance_ bo_isinstance (pa_cons (pv 0) (pa_cons (pe_bty (by rfl) B.tuple_ bo_tuple) pa_nil))))) (pw_or1 (pt_cmpR (op_neK (K := K) rfl (hu64 hr)) (pe_callB (call_lenK (K := K) rfl) (by rfl) B.len_ bo_len (pa_cons (pv 0) pa_nil)) (pe_callB (call_lenK (K := K) rfl) (by rfl) B.len_ bo_len (pa_cons (pv 1) pa_nil)) (nomark _))))) (pss_one (ps_ret pe_bl)) pss_nil)
      (pss_cons (ps_for PassesOwn.never rfl (pi_range1 (by rfl) B.range_ (pa_cons (pe_callB (call_lenK (K := K) rfl) (by rfl) B.len_ bo_len (pa_cons (pv 1) pa_nil)) pa_nil)) (pg_name (i := 2) nd rfl (by first | exact Or.inl rfl | exact Or.inr rfl)) (pss_one (ps_if (pt_not (pt_val (pe_callC C__law_same (hr.mono (by omega)) (by rfl) (pa_cons (pe_ix (ix_seqK (K := K) rfl) (pv 0) (pv 2) (fun _ _ => rfl)) (pa_cons (pe_ix (ix_seqK (K := K) rfl) (pv 1) (pv 2) (fun _ _ => rfl)) pa_nil))))) (pss_one (ps_ret pe_bl)) pss_nil)))
      (pss_one (ps_ret pe_bl)))) pss_nil)
      (pss_cons (ps_if (pt_cmpR op_isA (pv 1) pe_non (nomark _)) (pss_one (ps_ret (pe_cmpR op_isA (pv 0) pe_non (nomark _)))) pss_nil)
      (pss_cons (ps_if (pt_val (pe_callB (call_isiQ (K := K) rfl) (by rfl) B.isinstance_ bo_isinstance (pa_cons (pv 1) (pa_cons (pe_bty (by rfl) B.str_ bo_str) pa_nil)))) (pss_one (ps_ret (pe_and (pe_callB (call_isiQ (K := K) rfl) (by rfl) B.isinstance_ bo_isinstance (pa_cons (pv 0) (pa_cons (pe_bty (by rfl) B.str_ bo_str) pa_nil))) (pe_one (pe_cmpR (op_eqK (K := K) rfl (hu64 hr)) (pv 0) (pv 1) (nomark _)))))) pss_nil)
      (pss_one (ps_ret (pe_and (pe_callB (call_isiQ (K := K) rfl) (by rfl) B.isinstance_ bo_isinstance (pa_cons (pv 0) (pa_cons (pe_bty (by rfl) B.int_ bo_int) pa_nil))) (pe_and (pe_not (pe_callB (call_isiQ (K := K) rfl) (by rfl) B.isinstance_ bo_isinstance (pa_cons (pv 0) (pa_cons (pe_bty (by rfl) B.bool_ bo_bool) pa_nil)))) (pe_one (pe_cmpR (op_eqK (K := K) rfl (hu64 hr)) (pv 0) (pv 1) (nomark _))))))))))), rfl, ?_⟩
    walk_at "q"
    cases d with
    | none =>
      cases hv
      cases hu
      walk_at "q"
      exact q_bt (by simp) (q _ (by walk_at "ex"))
    | bool b => exact hd.elim
    | int i =>
      cases hv
      cases hu
      walk_at "q"
      exact q_bt (by simp) (q _ (by walk_at "ex"))
    | str x =>
      cases hv
      cases hu
      walk_at "q"
      exact q_bt (by simp) (q _ (by walk_at "ex"))
    | list ds => exact hd.elim
    | tuple ds =>
      walk_at "q"
      obtain ⟨hl, hd⟩ := hd
      refine q_rng1 ds.length hl (fun _ σ' H' => ∃ z, σ' = [some v, some u, z] ∧ Ex H H') ⟨_, rfl, by walk_at "ex"⟩ ?_ ?_
      · rintro i _ H' hi ⟨z, rfl, eH⟩
        walk_at "q"
        refine q_ixRT hv (by walk_at "ex") (atI_at hi) (fun v1 hv1 => ?_)
        walk_at "q"
        refine q_ixRT hu (by walk_at "ex") (atI_at hi) (fun u1 hu1 => ?_)
        walk_at "q"
        refine ⟨G, v1, u1, _, rfl, by walk_at "ex", hv1, hu1, hd _ (List.getElem_mem hi), fun H2 e2 => ?_⟩
        walk_at "q"
        exact ⟨_, rfl, by walk_at "ex"⟩
      · rintro _ H' ⟨z, rfl, eH⟩
        walk_at "q"
        exact q _ eH
    | dict ds => exact (by cases hv)
abbrev s__law_made : Stmt := topS 63
abbrev N__law_made : List Str := ["pool", "net"]
theorem sc__law_made : FnScope N__law_made ["pool", "net"] (defScope s__law_made) := ⟨rfl, rfl, rfl, by decide +kernel, rfl, by decide +kernel, by decide +kernel⟩
theorem c_made {C CB f : Addr} {fd : FuncData} (F : FnP K "_law_made" s__law_made f fd) (hm : mg "_law_made" = some (.ref f)) (B : Blt mg) (C__law_take : Cal P w K mg base 2 "_law_take" ["pool", "many"] (sp_take K)) (M_Net : Mkx P w K mg base 6 "Net" C ["self", "processes", "channels", "rules"] (sp_net K C CB)) : Cal P w K mg base 8 "_law_made" ["pool", "net"] (sp_made K C) := by
  refine cal_of F hm sc__law_made (fun _ _ _ _ _ _ _ us hl => match us, hl with | [_, _], _ => rfl) (fun vs H Q E h => ?_) (fun cdv A outer s H vs Q E hr h => ?_)
  · obtain ⟨_, _, _, _, _, _, _, rfl, _⟩ := h
    rfl
  · obtain ⟨G, b, n, kvs, ps, cs, rs, rfl, eG, gb, hb, hB, hN, ln, q⟩ := h
    have nd := sc__law_made.nd
    have s0 := Sd.start eG gb hb
    have eC : (mnOf ps cs rs).C.map Chn.d = cs := congrArg NetD.c ln.mnN
    have eR : (mnOf ps cs rs).R.map Rul.d = rs := congrArg NetD.r ln.mnN
    refine ⟨_, [some _, some _], ((pss_cons (ps_if (pt_cmpR (op_eqK (K := K) rfl (hu64 hr)) (pe_callC C__law_take (hr.mono (by omega)) (by rfl) (pa_cons (pv 0) (pa_cons pe_int pa_nil))) pe_int (nomark _)) (pss_one (ps_ret (pe_mkS0 M_Net (hr.mono (by omega)) (by rfl) (pa_cons (pe_callTy (call_listK (K := K) rfl) (by rfl) B.list_ bo_list (pa_cons (pe_dget (hu1 hr) (pv 1) pe_str (fun _ _ => rfl)) pa_nil)) (pa_cons (pe_callTy (call_listK (K := K) rfl) (by rfl) B.list_ bo_list (pa_cons (pe_dget (hu1 hr) (pv 1) pe_str (fun _ _ => rfl)) pa_nil)) (pa_cons (pe_callTy (call_listK (K := K) rfl) (by rfl) B.list_ bo_list (pa_cons (pe_dget (hu1 hr) (pv 1) pe_str (fun _ _ => rfl)) pa_nil)) pa_nil)))))) pss_nil)
      (pss_one (ps_ret (pe_mkS0 M_Net (hr.mono (by omega)) (by rfl) (pa_cons (pe_callTy (call_tupK (K := K) rfl) (by rfl) B.tuple_ bo_tuple (pa_cons (pe_dget (hu1 hr) (pv 1) pe_str (fun _ _ => rfl)) pa_nil)) (pa_cons (pe_callTy (call_tupK (K := K) rfl) (by rfl) B.tuple_ bo_tuple (pa_cons (pe_dget (hu1 hr) (pv 1) pe_str (fun _ _ => rfl)) pa_nil)) (pa_cons (pe_callTy (call_tupK (K := K) rfl) (by rfl) B.tuple_ bo_tuple (pa_cons (pe_dget (hu1 hr) (pv 1) pe_str (fun _ _ => rfl)) pa_nil)) pa_nil)))))))), rfl, ?_⟩
    walk_at "q"
    refine ⟨G, b, 2, kvs, rfl, eG, gb, hb, hB, by decide, fun r kv2 H2 r0 r1 hB2 e2 hb2 k2 => ?_⟩
    have s2 := s0.take e2 hb2 k2
    walk_at "q"
    refine q_ifd (fun h => ?_) (fun h => ?_)
    · walk_at "q"
      refine q_nlP hN e2 (fun a1 q1 => ?_)
      walk_at "q"
      refine q_lstRS q1 (.inl rfl) e2 (fun ws1 p1 hws1 hp1 => ?_)
      have g1 := Gro.new (o := .lst ws1) e2 hp1
      have r1 : Rp K (L2.upd G p1 (.lst ws1)) (.ref p1) (.list _) := .lst upd_same (hws1.mono g1.g)
      walk_at "q"
      refine q_nlC (hN.mono g1.g) g1.w (fun a2 q2 => ?_)
      walk_at "q"
      refine q_lstRS q2 (.inl rfl) g1.w (fun ws2 p2 hws2 hp2 => ?_)
      have g2 := Gro.new (o := .lst ws2) g1.w hp2
      have r2 : Rp K (L2.upd _ p2 (.lst ws2)) (.ref p2) (.list _) := .lst upd_same (hws2.mono g2.g)
      walk_at "q"
      refine q_nlR (hN.mono (g1.g.trans g2.g)) g2.w (fun a3 q3 => ?_)
      walk_at "q"
      refine q_lstRS q3 (.inl rfl) g2.w (fun ws3 p3 hws3 hp3 => ?_)
      have g3 := Gro.new (o := .lst ws3) g2.w hp3
      have r3 : Rp K (L2.upd _ p3 (.lst ws3)) (.ref p3) (.list _) := .lst upd_same (hws3.mono g3.g)
      walk_at "q"
      have s3 := ((s2.gro g1).gro g2).gro g3
      refine q_netP (d1 := .list ps) (d2 := .list cs) (d3 := .list rs) g3.w (r1.mono (g2.g.trans g3.g)) (shp_list (okD_le ln.okP (by decide))) (eC ▸ r2.mono g3.g) (shp_list (okD_le ln.okC (by decide))) (eR ▸ r3) (shp_list (okD_le ln.okR (by decide))) ln.good (fun G4 H4 m g4 hA => ?_)
      have s4 := s3.gro g4
      walk_at "q"
      exact q m kv2 _ _ s4 (hB2.mono (g1.g.trans (g2.g.trans (g3.g.trans g4.g)))) (by rw [← ln.of]; exact hA)
    · walk_at "q"
      refine q_nlP hN e2 (fun a1 q1 => ?_)
      walk_at "q"
      refine q_tupRS q1 (.inl rfl) e2 (fun G1 H1 p1 g1 r1 => ?_)
      walk_at "q"
      refine q_nlC (hN.mono g1.g) g1.w (fun a2 q2 => ?_)
      walk_at "q"
      refine q_tupRS q2 (.inl rfl) g1.w (fun G2 H2 p2 g2 r2 => ?_)
      walk_at "q"
      refine q_nlR (hN.mono (g1.g.trans g2.g)) g2.w (fun a3 q3 => ?_)
      walk_at "q"
      refine q_tupRS q3 (.inl rfl) g2.w (fun G3 H3 p3 g3 r3 => ?_)
      walk_at "q"
      have s3 := ((s2.gro g1).gro g2).gro g3
      refine q_netP (d1 := .tuple ps) (d2 := .tuple cs) (d3 := .tuple rs) g3.w (r1.mono (g2.g.trans g3.g)) (id (okD_le ln.okP (by decide))) (eC ▸ r2.mono g3.g) (id (okD_le ln.okC (by decide))) (eR ▸ r3) (id (okD_le ln.okR (by decide))) ln.good (fun G4 H4 m g4 hA => ?_)
      have s4 := s3.gro g4
      walk_at "q"
      exact q m kv2 _ _ s4 (hB2.mono (g1.g.trans (g2.g.trans (g3.g.trans g4.g)))) (by rw [← ln.of]; exact hA)
end
end Cw

set_option maxHeartbeats 4000000
namespace Cw
open PySem PySem.Spec PyProof.Rows L2
section
variable {P : Program} {w : World} {K : PySem.W.Frag} {mg : Str → Option Value} {base : Heap}
abbrev s__law_near : Stmt := topS 71
abbrev N__law_near : List Str := ["pool", "net", "world", "near", "r", "act", "c", "gone", "can", "one", "k", "deed"]
theorem sc__law_near : FnScope N__law_near ["pool", "net", "world"] (defScope s__law_near) := ⟨rfl, rfl, rfl, by decide +kernel, rfl, by decide +kernel, by decide +kernel⟩
theorem c_nearD {f : Addr} {fd : FuncData} (F : FnP K "_law_near" s__law_near f fd) (hm : mg "_law_near" = some (.ref f)) (B : Blt mg) (C__law_take : Cal P w K mg base 2 "_law_take" ["pool", "many"] (sp_take K)) (C__law_possible : Cal P w K mg base 2 "_law_possible" ["net", "world"] (sp_dposs K)) : Cal P w K mg base 3 "_law_near" ["pool", "net", "world"] (sp_near K) := by
  refine cal_of F hm sc__law_near (fun _ _ _ _ _ _ _ us hl => match us, hl with | [_, _, _], _ => rfl) (fun vs H Q E h => ?_) (fun cdv A outer s H vs Q E hr h => ?_)
  · obtain ⟨_, _, _, _, _, _, _, _, rfl, _⟩ := h
    rfl
  · obtain ⟨G, b, n, kvs, M, x, W, BB, rfl, eG, gb, hb, hB, hN, ok, hx, wok, hBB, hn, q⟩ := h
    have nd := sc__law_near.nd
    refine ⟨_, [some _, some _, some _, none, none, none, none, none, none, none, none, none], ((pss_cons (ps_set (i := 3) nd rfl (Or.inl rfl) (pe_lst (pa_cons (pe_tup (pa_cons pe_str (pa_cons (pe_callB (call_lenK (K := K) rfl) (by rfl) B.len_ bo_len (pa_cons (pe_dget (hu1 hr) (pv 1) pe_str (fun _ _ => rfl)) pa_nil)) pa_nil))) (pa_cons (pe_tup (pa_cons pe_str (pa_cons (pe_callB (call_lenK (K := K) rfl) (by rfl) B.len_ bo_len (pa_cons (pe_dget (hu1 hr) (pv 1) pe_str (fun _ _ => rfl)) pa_nil)) (pa_cons pe_int pa_nil)))) (pa_cons (pe_tup (pa_cons pe_str (pa_cons (pe_callB (call_lenK (K := K) rfl) (by rfl) B.len_ bo_len (pa_cons (pe_dget (hu1 hr) (pv 1) pe_str (fun _ _ => rfl)) pa_nil)) (pa_cons pe_int pa_nil)))) pa_nil)))))
      (pss_cons (ps_for PassesOwn.never rfl (pi_range1 (by rfl) B.range_ (pa_cons (pe_callB (call_lenK (K := K) rfl) (by rfl) B.len_ bo_len (pa_cons (pe_dget (hu1 hr) (pv 1) pe_str (fun _ _ => rfl)) pa_nil)) pa_nil)) (pg_name (i := 4) nd rfl (Or.inr rfl)) (pss_cons (ps_set (i := 5) nd rfl (Or.inl rfl) (pe_ix (ix_seqK (K := K) rfl) (pe_ix (ix_seqK (K := K) rfl) (pe_dget (hu1 hr) (pv 1) pe_str (fun _ _ => rfl)) (pv 4) (fun _ _ => rfl)) pe_int (fun _ _ => rfl)))
      (pss_cons (ps_expr (pe_bmK (K := K) rfl PySem.F.plainAttrs_list PySem.F.slot_list_append PySem.F.type_list_append mt_append (pv 3) (pa_cons (pe_tup (pa_cons pe_str (pa_cons (pv 4) pa_nil))) pa_nil)))
      (pss_one (ps_if (pt_cmpR (op_eqK (K := K) rfl (hu64 hr)) (pe_ix (ix_seqK (K := K) rfl) (pv 5) pe_int (fun _ _ => rfl)) pe_str (nomark _)) (pss_one (ps_set (i := 3) nd rfl (Or.inl rfl) (pe_op (op_addK (K := K) rfl) (pe_op (op_addK (K := K) rfl) (pv 3) (pe_lc (own := [("one", 9)]) rfl nd (pi_seqK (K := K) rfl (pe_ix (ix_seqK (K := K) rfl) (pe_ix (ix_seqK (K := K) rfl) (pv 2) pe_int (fun _ _ => rfl)) (pe_ix (ix_seqK (K := K) rfl) (pv 5) pe_int (fun _ _ => rfl)) (fun _ _ => rfl))) (blkOk_by (N := N__law_near) (sc := defScope s__law_near) (by decide +kernel)) (fun _ _ _ _ _ => (pg_name (i := 9) nd rfl (by first | exact Or.inl rfl | exact Or.inr rfl))) (fun _ _ _ _ _ => pts_nil) (fun _ _ _ _ _ => (pe_tup (pa_cons pe_str (pa_cons (pv 4) (pa_cons (pe_ix (ix_seqK (K := K) rfl) (pv 9) pe_int (fun _ _ => rfl)) pa_nil))))))) (pe_lst (pa_cons (pe_tup (pa_cons pe_str (pa_cons (pv 4) (pa_cons (pe_ix (ix_seqK (K := K) rfl) (pe_ix (ix_seqK (K := K) rfl) (pv 2) pe_int (fun _ _ => rfl)) (pe_ix (ix_seqK (K := K) rfl) (pv 5) pe_int (fun _ _ => rfl)) (fun _ _ => rfl)) pa_nil)))) pa_nil))))) (pss_one (ps_expr (pe_bmK (K := K) rfl PySem.F.plainAttrs_list PySem.F.slot_list_append PySem.F.type_list_append mt_append (pv 3) (pa_cons (pe_tup (pa_cons pe_str (pa_cons (pv 4) (pa_cons pe_int pa_nil)))) pa_nil)))))))))
      (pss_cons (ps_for PassesOwn.never rfl (pi_range1 (by rfl) B.range_ (pa_cons (pe_callB (call_lenK (K := K) rfl) (by rfl) B.len_ bo_len (pa_cons (pe_dget (hu1 hr) (pv 1) pe_str (fun _ _ => rfl)) pa_nil)) pa_nil)) (pg_name (i := 6) nd rfl (Or.inr rfl)) (pss_cons (ps_setLc (i := 7) (own := [("k", 10)]) rfl nd rfl rfl (sw_true rfl rfl rfl (by decide +kernel)) (pi_range1 (by rfl) B.range_ (pa_cons (pe_ix (ix_seqK (K := K) rfl) (pe_ix (ix_seqK (K := K) rfl) (pv 2) pe_int (fun _ _ => rfl)) (pv 6) (fun _ _ => rfl)) pa_nil)) (blkOk_by (N := N__law_near) (sc := defScope s__law_near) (by decide +kernel)) (fun _ _ _ _ _ => (pg_name (i := 10) nd rfl (by first | exact Or.inl rfl | exact Or.inr rfl))) (fun _ _ _ _ _ => (pts_one (pt_cmpR (op_niB (K := K) rfl (hu65 hr)) (pv 10) (pe_lc (own := [("one", 9)]) rfl nd (pi_seqK (K := K) rfl (pe_ix (ix_seqK (K := K) rfl) (pe_ix (ix_seqK (K := K) rfl) (pv 2) pe_int (fun _ _ => rfl)) (pv 6) (fun _ _ => rfl))) (blkOk_by (by kernel_rfl)) (fun _ _ _ _ _ => (pg_name (i := 9) nd rfl (by first | exact Or.inl rfl | exact Or.inr rfl))) (fun _ _ _ _ _ => pts_nil) (fun _ _ _ _ _ => (pe_ix (ix_seqK (K := K) rfl) (pv 9) pe_int (fun _ _ => rfl)))) (by with_unfolding_all rfl)))) (fun _ _ _ _ _ => (pv 10)))
      (pss_cons (ps_set (i := 3) nd rfl (Or.inl rfl) (pe_op (op_addK (K := K) rfl) (pe_op (op_addK (K := K) rfl) (pv 3) (pe_lc (own := [("one", 9)]) rfl nd (pi_seqK (K := K) rfl (pe_ix (ix_seqK (K := K) rfl) (pe_ix (ix_seqK (K := K) rfl) (pv 2) pe_int (fun _ _ => rfl)) (pv 6) (fun _ _ => rfl))) (blkOk_by (N := N__law_near) (sc := defScope s__law_near) (by decide +kernel)) (fun _ _ _ _ _ => (pg_name (i := 9) nd rfl (by first | exact Or.inl rfl | exact Or.inr rfl))) (fun _ _ _ _ _ => pts_nil) (fun _ _ _ _ _ => (pe_tup (pa_cons pe_str (pa_cons (pv 6) (pa_cons (pe_ix (ix_seqK (K := K) rfl) (pv 9) pe_int (fun _ _ => rfl)) pa_nil))))))) (pe_lc (own := [("k", 10)]) rfl nd (pi_seqK (K := K) rfl (pe_slice (sl_anyK (K := K) rfl) (pv 7) po_none (po_some pe_int))) (blkOk_by (N := N__law_near) (sc := defScope s__law_near) (by decide +kernel)) (fun _ _ _ _ _ => (pg_name (i := 10) nd rfl (by first | exact Or.inl rfl | exact Or.inr rfl))) (fun _ _ _ _ _ => pts_nil) (fun _ _ _ _ _ => (pe_tup (pa_cons pe_str (pa_cons (pv 6) (pa_cons (pv 10) pa_nil))))))))
      (pss_one (ps_set (i := 3) nd rfl (Or.inl rfl) (pe_op (op_addK (K := K) rfl) (pv 3) (pe_lst (pa_cons (pe_tup (pa_cons pe_str (pa_cons (pv 6) (pa_cons (pe_ix (ix_seqK (K := K) rfl) (pe_ix (ix_seqK (K := K) rfl) (pv 2) pe_int (fun _ _ => rfl)) (pv 6) (fun _ _ => rfl)) pa_nil)))) (pa_cons (pe_tup (pa_cons pe_str (pa_cons (pv 6) (pa_cons (pe_op op_pow pe_int pe_int) pa_nil)))) pa_nil)))))))))
      (pss_cons (ps_set (i := 3) nd rfl (Or.inl rfl) (pe_op (op_addK (K := K) rfl) (pv 3) (pe_lst (pa_cons pe_non (pa_cons pe_int (pa_cons pe_str (pa_cons (pe_tup pa_nil) (pa_cons (pe_tup (pa_cons pe_str pa_nil)) (pa_cons (pe_tup (pa_cons pe_str (pa_cons pe_int (pa_cons pe_int pa_nil)))) (pa_cons (pe_tup (pa_cons pe_str (pa_cons pe_int pa_nil))) (pa_cons (pe_tup (pa_cons pe_str (pa_cons pe_non pa_nil))) (pa_cons (pe_tup (pa_cons pe_str (pa_cons (pe_un un_neg pe_int) pa_nil))) pa_nil))))))))))))
      (pss_cons (ps_set (i := 3) nd rfl (Or.inl rfl) (pe_op (op_addK (K := K) rfl) (pv 3) (pe_lst (pa_cons (pe_tup (pa_cons pe_str (pa_cons pe_int pa_nil))) (pa_cons (pe_tup (pa_cons pe_str (pa_cons pe_int (pa_cons (pe_un un_neg pe_int) pa_nil)))) (pa_cons (pe_tup (pa_cons pe_str (pa_cons pe_int pa_nil))) (pa_cons (pe_tup (pa_cons pe_str (pa_cons (pe_un un_neg pe_int) (pa_cons pe_int pa_nil)))) (pa_cons (pe_tup (pa_cons pe_str (pa_cons pe_int (pa_cons (pe_un un_neg pe_int) pa_nil)))) pa_nil))))))))
      (pss_cons (ps_set (i := 8) nd rfl (Or.inr rfl) (pe_callC C__law_possible (hr.mono (by omega)) (by rfl) (pa_cons (pv 1) (pa_cons (pv 2) pa_nil))))
      (pss_cons (ps_setLc (i := 3) (own := [("deed", 11)]) rfl nd rfl rfl (sw_true rfl rfl rfl (by decide +kernel)) (pi_seqK (K := K) rfl (pv 3)) (blkOk_by (N := N__law_near) (sc := defScope s__law_near) (by decide +kernel)) (fun _ _ _ _ _ => (pg_name (i := 11) nd rfl (by first | exact Or.inl rfl | exact Or.inr rfl))) (fun _ _ _ _ _ => (pts_one (pt_cmpR (op_niB (K := K) rfl (hu65 hr)) (pv 11) (pv 8) (by with_unfolding_all rfl)))) (fun _ _ _ _ _ => (pv 11)))
      (pss_one (ps_ret (pe_ix (ix_seqK (K := K) rfl) (pv 3) (pe_callC C__law_take (hr.mono (by omega)) (by rfl) (pa_cons (pv 0) (pa_cons (pe_callB (call_lenK (K := K) rfl) (by rfl) B.len_ bo_len (pa_cons (pv 3) pa_nil)) pa_nil))) (fun _ _ => rfl)))))))))))), rfl, ?_⟩
    walk_at "q"
    refine q_nlR hN eG (fun pr hpr => ?_)
    walk_at "q"
    rename_i p1 hp1
    have g1 := Gro.new (o := .tup [.str "act", .int ((M.R.map Rul.d).length : Nat)]) eG hp1
    have w1 := g1.w
    refine q_nlR (hN.mono g1.g) w1 (fun pr2 hpr2 => ?_)
    walk_at "q"
    rename_i p2 hp2
    have g2 := g1.trans0 (Gro.new (o := .tup [.str "take", .int ((M.R.map Rul.d).length : Nat), .int 0]) g1.w hp2)
    have w2 := g2.w
    refine q_nlC (hN.mono g2.g) w2 (fun pr3 hpr3 => ?_)
    walk_at "q"
    rename_i p3 hp3 l0 hl0
    have g3 := g2.trans0 (Gro.new (o := .tup [.str "lose", .int ((M.C.map Chn.d).length : Nat), .int 0]) g2.w hp3)
    have r3 : Rps K (L2.upd (L2.upd (L2.upd G p1 (.tup [.str "act", .int ((M.R.map Rul.d).length : Nat)])) p2 (.tup [.str "take", .int ((M.R.map Rul.d).length : Nat), .int 0])) p3 (.tup [.str "lose", .int ((M.C.map Chn.d).length : Nat), .int 0])) [.ref p1, .ref p2, .ref p3] [.tuple [.str "act", .int ((M.R.map Rul.d).length : Nat)], .tuple [.str "take", .int ((M.R.map Rul.d).length : Nat), .int 0], .tuple [.str "lose", .int ((M.C.map Chn.d).length : Nat), .int 0]] :=
      .cons (.tup (.inl (.inl (upd_old (upd_old upd_same (g1.w.back hp2)) (g2.w.back hp3)))) (.cons (.str _) (.cons (.int _) .nil))) (.cons (.tup (.inl (.inl (upd_old upd_same (g2.w.back hp3)))) (.cons (.str _) (.cons (.int _) (.cons (.int _) .nil)))) (.cons (.tup (.inl (.inl upd_same)) (.cons (.str _) (.cons (.int _) (.cons (.int _) .nil)))) .nil))
    have ac0 := Acc.newL (l := l0) (ws := [.ref p1, .ref p2, .ref p3]) g3 hl0
    have ft0 : ∀ d ∈ ([.tuple [.str "act", .int ((M.R.map Rul.d).length : Nat)], .tuple [.str "take", .int ((M.R.map Rul.d).length : Nat), .int 0], .tuple [.str "lose", .int ((M.C.map Chn.d).length : Nat), .int 0]] : List PyData), Nr d := fun d hd => by
      simp only [List.mem_cons, List.mem_nil_iff, or_false] at hd
      rcases hd with rfl | rfl | rfl
      · exact nr_act _ (by decide +kernel) _
      · exact nr_three _ (by decide +kernel) _ _
      · exact nr_three _ (by decide +kernel) _ _
    generalize L2.upd (L2.upd (L2.upd G p1 (.tup [.str "act", .int ((M.R.map Rul.d).length : Nat)])) p2 (.tup [.str "take", .int ((M.R.map Rul.d).length : Nat), .int 0])) p3 (.tup [.str "lose", .int ((M.C.map Chn.d).length : Nat), .int 0]) = Ga at ac0 r3
    generalize ([.tuple [.str "act", .int ((M.R.map Rul.d).length : Nat)], .tuple [.str "take", .int ((M.R.map Rul.d).length : Nat), .int 0], .tuple [.str "lose", .int ((M.C.map Chn.d).length : Nat), .int 0]] : List PyData) = es0 at r3 ft0
    generalize L2.upd (L2.upd (L2.upd (L2.upd H p1 (.tup [.str "act", .int ((M.R.map Rul.d).length : Nat)])) p2 (.tup [.str "take", .int ((M.R.map Rul.d).length : Nat), .int 0])) p3 (.tup [.str "lose", .int ((M.C.map Chn.d).length : Nat), .int 0])) l0 (.lst [.ref p1, .ref p2, .ref p3]) = Ha at ac0 ⊢
    clear w1 w2 g1 g2 g3 hp1 hp2 hp3 hl0 hpr hpr2 hpr3
    have w0 := ac0.w
    have l3 := r3.len.symm
    refine q_nlR (hN.mono ac0.gr.g) w0 (fun pr0 hpr0 => ?_)
    walk_at "q"
    rw [List.length_map]
    refine q_rng1 M.R.length (by have := ok.lr; omega) (fun i σ' H' => ∃ z4 z5 z9 l vs es G', σ' = [some (.ref b), some (.ref n), some x, some (.ref l), z4, z5, none, none, none, z9, none, none] ∧ Acc l G H G' H' vs ∧ Rps K G' vs es ∧ (∀ d ∈ es, Nr d) ∧ es.length ≤ 3 + i * 1005) ⟨none, none, none, l0, _, es0, Ga, rfl, ac0, r3, ft0, by rw [l3]; simp⟩ ?_ ?_
    · clear ac0 r3 ft0 w0 hpr0 l3
      rintro i σ' H' hi ⟨z4, z5, z9, l, vs, es, G', rfl, ac, hr1, ft, le⟩
      have w1 := ac.w
      have hl1 := ac.hl
      have eg := ac.gr.g
      obtain ⟨hp, hcc⟩ := ok.ru _ (List.getElem_mem hi)
      have hi40 : i < 40 := by have := ok.lr; omega
      walk_at "q"
      refine q_nlR (hN.mono eg) w1 (fun pr hpr => ?_)
      walk_at "q"
      refine q_ixRL hpr w1 (MN.rule hi) (fun v3 h3 => ?_)
      walk_at "q"
      refine q_ixRT h3 w1 (atI_nat (j := 2) rfl) (fun v4 k3 => ?_)
      walk_at "q"
      rename_i pa hpa
      refine q_append (upd_old hl1 hpa) (line_lt (by rw [hr1.len]; omega)) ?_
      have g2 := Gro.new (o := .tup [.str "act", .int (i : Int)]) w1 hpa
      have ac2 := (ac.gro g2).put (ws := vs ++ [.ref pa])
      have hr2 : Rps K (L2.upd G' pa (.tup [.str "act", .int (i : Int)])) (vs ++ [.ref pa]) (es ++ [.tuple [.str "act", .int (i : Int)]]) := (hr1.mono g2.g).app (Rps.one (.tup (.inl (.inl upd_same)) (.cons (.str _) (.cons (.int _) .nil))))
      have ft2 := nr_app ft (es := [.tuple [.str "act", .int (i : Int)]]) (fun d hd => by rw [List.mem_singleton.mp hd]; exact nr_act _ (by decide +kernel) _)
      have le2 : (es ++ [PyData.tuple [.str "act", .int (i : Int)]]).length ≤ 4 + i * 1005 := by rw [List.length_append]; simp only [List.length_cons, List.length_nil]; omega
      have k32 := k3.mono g2.g
      generalize es ++ [PyData.tuple [.str "act", .int (i : Int)]] = es2 at hr2 ft2 le2
      generalize vs ++ [.ref pa] = vs2 at ac2 hr2 ⊢
      generalize L2.upd G' pa (.tup [.str "act", .int (i : Int)]) = G2 at ac2 hr2 k32 g2
      generalize L2.upd (L2.upd H' pa (.tup [.str "act", .int (i : Int)])) l (.lst vs2) = H2 at ac2 ⊢
      clear g2 ac hr1 ft le k3 w1 hl1 eg hpr h3 hpa
      have w2 := ac2.w
      have hl2 := ac2.hl
      have eg2 := ac2.gr.g
      generalize ea : M.R[i].a = aa at hcc k32
      walk_at "q"
      cases aa with
      | do_ =>
        refine q_ixRT k32 w2 (atI_nat (j := 0) rfl) (fun v9 h9 => ?_)
        cases h9
        walk_at "q"
        rename_i pb hpb
        refine q_append (upd_old hl2 hpb) (line_lt (by rw [hr2.len]; omega)) ?_
        have g4 := Gro.new (o := .tup [.str "take", .int (i : Int), .int 0]) w2 hpb
        exact ⟨_, _, _, l, _, es2 ++ [.tuple [.str "take", .int (i : Int), .int 0]], _, rfl, (ac2.gro g4).put, (hr2.mono g4.g).app (Rps.one (.tup (.inl (.inl upd_same)) (.cons (.str _) (.cons (.int _) (.cons (.int _) .nil))))), nr_app ft2 (fun d hd => by rw [List.mem_singleton.mp hd]; exact nr_three _ (by decide +kernel) _ _), by rw [List.length_append]; simp only [List.length_cons, List.length_nil]; omega⟩
      | send c k =>
        refine q_ixRT k32 w2 (atI_nat (j := 0) rfl) (fun v9 h9 => ?_)
        cases h9
        walk_at "q"
        rename_i pb hpb
        refine q_append (upd_old hl2 hpb) (line_lt (by rw [hr2.len]; omega)) ?_
        have g4 := Gro.new (o := .tup [.str "take", .int (i : Int), .int 0]) w2 hpb
        exact ⟨_, _, _, l, _, es2 ++ [.tuple [.str "take", .int (i : Int), .int 0]], _, rfl, (ac2.gro g4).put, (hr2.mono g4.g).app (Rps.one (.tup (.inl (.inl upd_same)) (.cons (.str _) (.cons (.int _) (.cons (.int _) .nil))))), nr_app ft2 (fun d hd => by rw [List.mem_singleton.mp hd]; exact nr_three _ (by decide +kernel) _ _), by rw [List.length_append]; simp only [List.length_cons, List.length_nil]; omega⟩
      | take c k =>
        have hcl := hcc c k (.inr rfl)
        have hcn : c < W.n.length := by rw [wok.ln]; exact hcl
        refine q_ixRT k32 w2 (atI_nat (j := 0) rfl) (fun v9 h9 => ?_)
        cases h9
        walk_at "q"
        refine q_lcL ?_
        walk_at "q"
        refine q_ixRT (hx.mono eg2) w2 rfl (fun v5 h5 => ?_)
        walk_at "q"
        refine q_ixRT k32 w2 (atI_nat (j := 1) rfl) (fun v6 h6 => ?_)
        cases h6
        refine q_ixRL h5 w2 (wok.atL hcl) (fun v7 h7 => ?_)
        have hrow := wok.row c
        refine q_fmL (h := msgD true) (f := fun m => some (Deed.take i m.1).d) h7 w2 (by omega) (fun j m u3 G3 H3 hm' gr3 ru C N yes no => ?_) (fun G3 H3 D g3 hD r3 => ?_)
        · have w3 := gr3.w
          walk_at "q"
          refine ⟨rfl, ?_⟩
          walk_at "q"
          refine q_ixRT ru w3 (atI_nat (j := 0) rfl) (fun u7 hu7 => ?_)
          obtain rfl := rp_nD hu7
          walk_at "q"
          rename_i p hp
          exact yes _ _ _ _ rfl (Gro.new w3 hp) (.tup (.inl (.inl upd_same)) (.cons (.str _) (.cons (.int _) (.cons (.int _) .nil))))
        rw [fm_map] at r3
        obtain ⟨al, zs, e, hL, hz⟩ := rp_lst r3
        cases e
        have lz : zs.length ≤ 900 := by rw [hz.len, List.length_map]; omega
        obtain ⟨c1, c2, c3, c4⟩ := one_step ac2 hr2 g3 hL hz (by rw [List.length_map]; omega)
        refine q_cat c1 c2 c3 (fun p hp => ?_)
        obtain ⟨c5, c6⟩ := c4 p hp
        have ft5 := nr_app ft2 (es := (rowM W c).map fun m => (Deed.take i m.1).d) (fun d hd => by
          obtain ⟨m, _, rfl⟩ := List.mem_map.mp hd
          exact nr_three _ (by decide +kernel) _ _)
        have le5 : (es2 ++ (rowM W c).map fun m => (Deed.take i m.1).d).length ≤ 904 + i * 1005 := by rw [List.length_append, List.length_map]; omega
        have k33 := k32.mono g3.g
        have eg3 := eg2.trans g3.g
        generalize (es2 ++ (rowM W c).map fun m => (Deed.take i m.1).d) = es5 at c6 ft5 le5
        generalize vs2 ++ zs = vs5 at c5 c6 ⊢
        generalize L2.upd H3 p (.lst vs5) = H5 at c5 ⊢
        clear c1 c2 c3 c4 g3 hL hz r3 hD ac2 hr2 h5 h7 hp
        have w5 := c5.w
        walk_at "q"
        refine q_ixRT (hx.mono eg3) w5 (atI_nat (j := 1) rfl) (fun v8 h8 => ?_)
        walk_at "q"
        refine q_ixRT k33 w5 (atI_nat (j := 1) rfl) (fun v6 h6 => ?_)
        cases h6
        refine q_ixRL h8 w5 (at_map hcn) (fun v10 h10 => ?_)
        obtain rfl := rp_nD h10
        walk_at "q"
        rename_i pt hpt pl hpl
        refine q_cat (upd_old (upd_old c5.hl hpt) hpl) upd_same (by exact Nat.le_trans (show _ ≤ 1000000 by rw [c6.len]; simp only [List.length_cons, List.length_nil]; omega) (by decide)) (fun pn hpn => ?_)
        have g6 := Gro.new (o := .tup [.str "take", .int (i : Int), .int (W.n[c] : Int)]) w5 hpt
        have g7 := (c5.gr.trans0 g6).trans0 (Gro.up g6.w (Ex.new (o := .lst [.ref pt]) hpl))
        exact ⟨_, _, _, pn, _, es5 ++ [.tuple [.str "take", .int (i : Int), .int (W.n[c] : Int)]], _, rfl, Acc.newL (l := l) g7 hpn, (c6.mono g6.g).app (Rps.one (.tup (.inl (.inl upd_same)) (.cons (.str _) (.cons (.int _) (.cons (.int _) .nil))))), nr_app ft5 (fun d hd => by rw [List.mem_singleton.mp hd]; exact nr_three _ (by decide +kernel) _ _), by rw [List.length_append]; simp only [List.length_cons, List.length_nil]; omega⟩
    · rintro σ' H' ⟨z4, z5, z9, l, vs, es, G', rfl, ac, hr1, ft, le⟩
      have w1 := ac.w
      have eg := ac.gr.g
      walk_at "q"
      refine q_nlC (hN.mono eg) w1 (fun pc hpc => ?_)
      walk_at "q"
      rw [List.length_map]
      refine q_rng1 M.C.length (by have := ok.lc; omega) (fun i σ' H' => ∃ z4 z5 z6 z7 z9 z10 l vs es G', σ' = [some (.ref b), some (.ref n), some x, some (.ref l), z4, z5, z6, z7, none, z9, z10, none] ∧ Acc l G H G' H' vs ∧ Rps K G' vs es ∧ (∀ d ∈ es, Nr d) ∧ es.length ≤ 41000 + i * 1000) ⟨_, _, none, none, _, none, l, vs, es, G', rfl, ac, hr1, ft, by have := ok.lr; have := Nat.mul_le_mul_right 1005 ok.lr; omega⟩ ?_ ?_
      · clear ac hr1 ft le w1 eg hpc
        rintro i σ' H' hi ⟨z4, z5, z6, z7, z9, z10, l, vs, es, G', rfl, ac, hr1, ft, le⟩
        have w1 := ac.w
        have hl1 := ac.hl
        have eg := ac.gr.g
        have hi8 : i < 8 := by have := ok.lc; omega
        have hin : i < W.n.length := by rw [wok.ln]; exact hi
        have hb9 : W.n[i] ≤ 900 := hn _ (List.getElem_mem hin)
        have hrow := wok.row i
        walk_at "q"
        refine q_ixRT (hx.mono eg) w1 (atI_nat (j := 1) rfl) (fun v8 h8 => ?_)
        walk_at "q"
        refine q_ixRL h8 w1 (at_map hin) (fun v10 h10 => ?_)
        obtain rfl := rp_nD h10
        walk_at "q"
        refine q_rng_lc W.n[i] (by omega) (fun D hD => ⟨fun j H2 => ∃ (ks : List Nat) (G2 : Hp), Acc D G' H' G2 H2 (ks.map fun k : Nat => V.int (k : Int)) ∧ ks.length ≤ j, ⟨[], G', Acc.first w1 hD, by simp⟩, ?_, ?_⟩)
        · rintro j H2 hj ⟨ks, G2, a2, lk⟩
          have w2 := a2.w
          walk_at "q"
          refine ⟨rfl, ?_⟩
          walk_at "q"
          refine q_lcL ?_
          walk_at "q"
          refine q_ixRT (hx.mono (eg.trans a2.gr.g)) w2 rfl (fun v5 h5 => ?_)
          walk_at "q"
          refine q_ixRL h5 w2 (wok.atL hi) (fun v7 h7 => ?_)
          refine q_fmL (h := msgD true) (f := fun m => some (nD m.1)) h7 w2 (by omega) (fun j m u3 G3 H3 hm' gr3 ru C N yes no => ?_) (fun G3 H3 D3 g3 hD3 r3 => ?_)
          · have w3 := gr3.w
            walk_at "q"
            refine ⟨rfl, ?_⟩
            walk_at "q"
            refine q_ixRT ru w3 (atI_nat (j := 0) rfl) (fun u7 hu7 => ?_)
            obtain rfl := rp_nD hu7
            exact yes _ _ _ _ rfl (Gro.refl w3) (.int _)
          rw [fm_map] at r3
          walk_at "q"
          refine q_niL (G := G3) (.int _) r3 g3.w (okD_int _ _) (shp_list (okD_le (n := 1) (okD_tup (by rw [List.length_map]; omega) fun d hd => by
            obtain ⟨m, _, rfl⟩ := List.mem_map.mp hd
            exact okD_int _ _) (by decide))) ?_
          have a3 := a2.gro g3
          refine ⟨_, rfl, ?_⟩
          refine q_ifb (fun h => ?_) (fun h => ?_)
          · walk_at "q"
            refine ⟨_, a3.hl, line_lt (by rw [List.length_map]; omega), ks ++ [j], G3, ?_, by rw [List.length_append]; simp only [List.length_cons, List.length_nil]; omega⟩
            rw [List.map_append]
            exact a3.put
          · walk_at "q"
            exact ⟨ks, G3, a3, by omega⟩
        · rintro H2 ⟨ks, G2, a2, lk⟩
          have g3 := a2.know
          have rg : Rp K (L2.upd G2 D (.lst (ks.map fun k : Nat => V.int (k : Int)))) (.ref D) (.list (ks.map nD)) := .lst upd_same (rps_of (by simp) fun k hk => by
            exact ⟨_, by rw [List.getElem?_map, List.getElem?_eq_getElem hk] <;> rfl, by rw [List.getElem?_eq_getElem hk]; exact .int _⟩)
          have ac3 := ac.gro g3
          have hr3 := hr1.mono g3.g
          generalize L2.upd G2 D (.lst (ks.map fun k : Nat => V.int (k : Int))) = G3 at g3 rg ac3 hr3
          clear a2 ac hr1 w1 hl1 hD h8
          have eg3 := eg.trans g3.g
          have w3 := ac3.w
          walk_at "q"
          refine q_lcL ?_
          walk_at "q"
          refine q_ixRT (hx.mono eg3) w3 rfl (fun v5 h5 => ?_)
          walk_at "q"
          refine q_ixRL h5 w3 (wok.atL hi) (fun v7 h7 => ?_)
          refine q_fmL (h := msgD true) (f := fun m => some (Deed.lose i m.1).d) h7 w3 (by omega) (fun j m u3 G4 H4 hm' gr4 ru C N yes no => ?_) (fun G4 H4 D4 g4 hD4 r4 => ?_)
          · have w4 := gr4.w
            walk_at "q"
            refine ⟨rfl, ?_⟩
            walk_at "q"
            refine q_ixRT ru w4 (atI_nat (j := 0) rfl) (fun u7 hu7 => ?_)
            obtain rfl := rp_nD hu7
            walk_at "q"
            rename_i p hp
            exact yes _ _ _ _ rfl (Gro.new w4 hp) (.tup (.inl (.inl upd_same)) (.cons (.str _) (.cons (.int _) (.cons (.int _) .nil))))
          rw [fm_map] at r4
          obtain ⟨al, zs, e, hL, hz⟩ := rp_lst r4
          cases e
          obtain ⟨c1, c2, c3, c4⟩ := one_step ac3 hr3 g4 hL hz (by rw [List.length_map]; omega)
          refine q_cat c1 c2 c3 (fun p hp => ?_)
          obtain ⟨c5, c6⟩ := c4 p hp
          have ft5 := nr_app ft (es := (rowM W i).map fun m => (Deed.lose i m.1).d) (fun d hd => by
            obtain ⟨m, _, rfl⟩ := List.mem_map.mp hd
            exact nr_three _ (by decide +kernel) _ _)
          have le5 : (es ++ (rowM W i).map fun m => (Deed.lose i m.1).d).length ≤ 41900 + i * 1000 := by rw [List.length_append, List.length_map]; omega
          have rg4 := rg.mono g4.g
          have eg4 := eg3.trans g4.g
          generalize (es ++ (rowM W i).map fun m => (Deed.lose i m.1).d) = es5 at c6 ft5 le5
          generalize vs ++ zs = vs5 at c5 c6 ⊢
          generalize L2.upd H4 p (.lst vs5) = H5 at c5 ⊢
          clear c1 c2 c3 c4 g4 hL hz r4 hD4 ac3 hr3 h5 h7 hp g3 rg eg3 w3
          have w5 := c5.w
          walk_at "q"
          refine q_lcL ?_
          walk_at "q"
          refine q_slTo (b := false) (k := 2) rg4 w5 (fun G6 H6 p6 g6 r6 => ?_)
          have r6' : Rp K G6 (.ref p6) (.list ((ks.take 2).map nD)) := by rw [List.map_take]; exact r6
          walk_at "q"
          refine q_fmL (h := nD) (f := fun k => some (Deed.lose i k).d) r6' g6.w (by rw [List.length_take]; omega) (fun j k u3 G7 H7 hm' gr7 ru C N yes no => ?_) (fun G7 H7 D7 g7 hD7 r7 => ?_)
          · have w7 := gr7.w
            obtain rfl := rp_nD ru
            walk_at "q"
            refine ⟨rfl, ?_⟩
            walk_at "q"
            rename_i p hp
            exact yes _ _ _ _ rfl (Gro.new w7 hp) (.tup (.inl (.inl upd_same)) (.cons (.str _) (.cons (.int _) (.cons (.int _) .nil))))
          rw [fm_map] at r7
          obtain ⟨al, zs, e, hL, hz⟩ := rp_lst r7
          cases e
          obtain ⟨c1, c2, c3, c4⟩ := one_step c5 c6 (g6.trans0 g7) hL hz (by rw [List.length_map, List.length_take]; omega)
          refine q_cat c1 c2 c3 (fun p hp => ?_)
          obtain ⟨c8, c9⟩ := c4 p hp
          have ft8 := nr_app ft5 (es := (ks.take 2).map fun k => (Deed.lose i k).d) (fun d hd => by
            obtain ⟨m, _, rfl⟩ := List.mem_map.mp hd
            exact nr_three _ (by decide +kernel) _ _)
          have le8 : (es5 ++ (ks.take 2).map fun k => (Deed.lose i k).d).length ≤ 41902 + i * 1000 := by rw [List.length_append, List.length_map, List.length_take]; omega
          have eg7 := (eg4.trans g6.g).trans g7.g
          generalize (es5 ++ (ks.take 2).map fun k => (Deed.lose i k).d) = es8 at c9 ft8 le8
          generalize vs5 ++ zs = vs8 at c8 c9 ⊢
          generalize L2.upd H7 p (.lst vs8) = H8 at c8 ⊢
          clear c1 c2 c3 c4 g7 hL hz r7 hD7 c5 c6 hp g6 r6 r6' rg4 w5
          have w8 := c8.w
          have hl8 := c8.hl
          walk_at "q"
          refine q_ixRT (hx.mono eg7) w8 (atI_nat (j := 1) rfl) (fun v8 h8 => ?_)
          walk_at "q"
          refine q_ixRL h8 w8 (at_map hin) (fun v10 h10 => ?_)
          obtain rfl := rp_nD h10
          walk_at "q"
          refine q_cat (by walk_at "at") (by walk_at "at") (by exact Nat.le_trans (show _ ≤ 1000000 by rw [c9.len]; simp only [List.length_cons, List.length_nil]; omega) (by decide)) (fun pn hpn => ?_)
          obtain ⟨G9, g9, k9, a9⟩ := c8.lay hpn (by walk_at "lay")
          walk_at "q"
          refine ⟨_, _, _, _, _, _, pn, _, es8 ++ [.tuple [.str "lose", .int _, .int _], .tuple [.str "lose", .int _, .int _]], G9, rfl, a9 _, (c9.mono g9.g).app (by walk_at "rps"), nr_app ft8 (fun d hd => ?_), by rw [List.length_append]; simp only [List.length_cons, List.length_nil]; omega⟩
          simp only [List.mem_cons, List.mem_nil_iff, or_false] at hd
          rcases hd with rfl | rfl
          · exact nr_three _ (by decide +kernel) _ _
          · exact nr_three _ (by decide +kernel) _ _
      · rintro σ' H' ⟨z4, z5, z6, z7, z9, z10, l, vs, es, G', rfl, ac, hr1, ft, le⟩
        have w1 := ac.w
        have hl1 := ac.hl
        have lv : vs.length ≤ 49000 := by rw [hr1.len]; have := ok.lc; omega
        walk_at "q"
        rename_i t1 _ t2 _ t3 _ t4 _ t5 _ t6 _ _ _
        refine q_cat (by walk_at "at") (by walk_at "at") (by exact Nat.le_trans (show _ ≤ 1000000 by simp only [List.length_cons, List.length_nil]; omega) (by decide)) (fun pn hpn => ?_)
        obtain ⟨G9, g9, k9, a9⟩ := ac.lay hpn (by walk_at "lay")
        have a9 := a9 (vs ++ [.non, .int 0, .str "act", .ref t1, .ref t2, .ref t3, .ref t4, .ref t5, .ref t6])
        have hr9 := (hr1.mono g9.g).app (show Rps K G9 [.non, .int 0, .str "act", .ref t1, .ref t2, .ref t3, .ref t4, .ref t5, .ref t6] tail1 from by unfold tail1; walk_at "rps")
        have ft9 := nr_app ft nr_tail1
        have le9 : (es ++ tail1).length ≤ 49100 := by rw [List.length_append, ← hr1.len, show tail1.length = 9 from rfl]; omega
        have hm9 : PyData.none ∈ es ++ tail1 := List.mem_append_right _ (List.mem_cons_self ..)
        generalize es ++ tail1 = es9 at hr9 ft9 le9 hm9
        clear k9 g9 hpn ac hr1 ft le hl1 w1 lv
        revert a9
        generalize L2.upd _ pn (.lst (vs ++ [.non, .int 0, .str "act", .ref t1, .ref t2, .ref t3, .ref t4, .ref t5, .ref t6])) = H9
        intro a9
        generalize vs ++ [V.non, .int 0, .str "act", .ref t1, .ref t2, .ref t3, .ref t4, .ref t5, .ref t6] = vs9 at a9 hr9
        have w9 := a9.w
        have hl9 := a9.hl
        have lv9 := hr9.len
        walk_at "q"
        rename_i x1 _ x2 _ x3 _ x4 _ x5 _ _ _
        refine q_cat (by walk_at "at") (by walk_at "at") (by exact Nat.le_trans (show _ ≤ 1000000 by rw [lv9]; simp only [List.length_cons, List.length_nil]; omega) (by decide)) (fun pm hpm => ?_)
        obtain ⟨Ga, ga, ka, aa⟩ := a9.lay hpm (by walk_at "lay")
        have aa := aa (vs9 ++ [.ref x1, .ref x2, .ref x3, .ref x4, .ref x5])
        have hra := (hr9.mono ga.g).app (show Rps K Ga [.ref x1, .ref x2, .ref x3, .ref x4, .ref x5] tail2 from by unfold tail2; walk_at "rps")
        have fta := nr_app ft9 nr_tail2
        have lea : (es9 ++ tail2).length ≤ 49200 := by rw [List.length_append, show tail2.length = 5 from rfl]; omega
        have hma : PyData.none ∈ es9 ++ tail2 := List.mem_append_left _ hm9
        generalize es9 ++ tail2 = esa at hra fta lea hma
        clear ka ga hpm a9 hr9 ft9 le9 hm9 w9 hl9 lv9
        have gk := aa.know
        have rl : Rp K _ (.ref pm) (.list (esa.map fun d => d)) := Rp.lst upd_same (by rw [List.map_id']; exact hra.mono (Ex.new aa.gl))
        clear aa hra
        revert gk rl
        generalize L2.upd Ga pm (.lst (vs9 ++ [.ref x1, .ref x2, .ref x3, .ref x4, .ref x5])) = Gb
        generalize L2.upd _ pm (.lst (vs9 ++ [.ref x1, .ref x2, .ref x3, .ref x4, .ref x5])) = Hb
        intro gk rl
        have wb := gk.w
        walk_at "q"
        refine ⟨Gb, n, M, x, W, BB, rfl, wb, hN.mono gk.g, ok, hx.mono gk.g, wok, by omega, fun Gc Hc pcan gc rcan => ?_⟩
        have wc := gc.w
        have shp := shp_poss ok wok (show BB ≤ 1000 by omega)
        walk_at "q"
        refine q_lcL ?_
        walk_at "q"
        refine q_fmL (xs := esa) (h := fun d => d) (f := fun d => if ((possM M W).map Deed.d).any (fun z => PyData.eqv z d) then none else some d) (rl.mono gc.g) wc (by omega) (fun j d u3 Gd Hd hm' grd ru C N yes no => ?_) (fun Gd Hd Dd gd hDd rd => ?_)
        · have wd := grd.w
          have hd := fta _ (List.mem_of_getElem? hm')
          walk_at "q"
          refine ⟨rfl, ?_⟩
          walk_at "q"
          refine q_niL (G := Gd) ru (rcan.mono grd.g) wd hd.1.shp shp ?_
          refine ⟨_, rfl, ?_⟩
          refine q_ifb (fun h => ?_) (fun h => ?_)
          · walk_at "q"
            exact yes _ _ _ _ (by rw [if_neg]; simpa using h) (Gro.refl wd) ru
          · walk_at "q"
            exact no _ _ (by rw [if_pos]; simpa using h) (Gro.refl wd)
        · have gz := (gk.trans0 gc).trans0 gd
          have sz := (Sd.start eG gb hb).gro gz
          have hz : ∀ d ∈ esa.filterMap (fun d => if ((possM M W).map Deed.d).any (fun z => PyData.eqv z d) then none else some d), Nr d ∧ (((possM M W).map Deed.d).any fun z => PyData.eqv z d) = false := fun d hd => by
            obtain ⟨e, he, h2⟩ := List.mem_filterMap.mp hd
            cases h3 : (((possM M W).map Deed.d).any fun z => PyData.eqv z e) with
            | true =>
              rw [h3, if_pos rfl] at h2
              cases h2
            | false =>
              rw [h3, if_neg (by decide)] at h2
              cases h2
              exact ⟨fta _ he, h3⟩
          have hp : 0 < (esa.filterMap (fun d => if ((possM M W).map Deed.d).any (fun z => PyData.eqv z d) then none else some d)).length :=
            List.length_pos_of_mem (List.mem_filterMap.mpr ⟨_, hma, by rw [deed_none, if_neg (by decide)]⟩)
          have hl := List.length_filterMap_le (fun d => if ((possM M W).map Deed.d).any (fun z => PyData.eqv z d) then none else some d) esa
          generalize esa.filterMap (fun d => if ((possM M W).map Deed.d).any (fun z => PyData.eqv z d) then none else some d) = esz at rd hz hp hl
          have wz := sz.w
          walk_at "q"
          refine ⟨Gd, b, _, kvs, rfl, wz, sz.gb, sz.hb, hB.mono sz.g, ⟨by omega, by omega⟩, fun r kv2 H2 r0 r1 hB2 e2 hb2 k2 => ?_⟩
          obtain ⟨j, rfl⟩ := Int.eq_ofNat_of_zero_le r0
          have s2 := sz.take e2 hb2 k2
          have hj : j < esz.length := by omega
          refine q_ixRL rd s2.w (atI_nat (List.getElem?_eq_getElem hj)) (fun u hu => ?_)
          obtain ⟨hnr, hno⟩ := hz _ (List.getElem_mem hj)
          exact q _ _ kv2 _ _ s2 hB2 hu hnr.1.1 (deed_not hnr hno)
end
end Cw

set_option maxHeartbeats 4000000
namespace Cw
open PySem PySem.Spec PyProof.Rows L2
section
variable {P : Program} {w : World} {K : PySem.W.Frag} {mg : Str → Option Value} {base : Heap}
abbrev s_worlds_on : Stmt := topS 46
abbrev N_worlds_on : List Str := ["net", "world", "many", "deeds", "worlds", "at", "deed"]
theorem sc_worlds_on : FnScope N_worlds_on ["net", "world", "many", "deeds"] (defScope s_worlds_on) := ⟨rfl, rfl, rfl, by decide +kernel, rfl, by decide +kernel, by decide +kernel⟩
theorem c_won {C CS f : Addr} {fd : FuncData} (F : FnP K "worlds_on" s_worlds_on f fd) (hm : mg "worlds_on" = some (.ref f)) (B : Blt mg) (cs : Cst K mg) (T_BadStep : Xn K mg "BadStep" "at" CS) (C_is_sequence : Cal P w K mg base 1 "is_sequence" ["value"] (sp1 K dSeq)) (C_can_be_done : Cal P w K mg base 5 "can_be_done" ["net", "world", "deed"] (sp_can K C))
    (C_done : CalX P w K mg base 6 "done" ["net", "world", "deed"] (sp_done K C CS)) : CalX P w K mg base 7 "worlds_on" ["net", "world", "many", "deeds"] (sp_won K C CS) := by
  refine calX_of F hm sc_worlds_on (fun _ _ _ _ _ _ _ us hl => match us, hl with | [_, _, _, _], _ => rfl) (fun vs H Q E h => ?_) (fun cdv A outer s H vs Q E hr h => ?_)
  · obtain ⟨_, _, _, _, _, _, _, _, _, rfl, _⟩ := h
    rfl
  · obtain ⟨G, a, M, v, b, W, m, u, d, rfl, eG, hN, ok, nok, hv, wok, hm, hu, hd, no0, qq⟩ := h
    have nd := sc_worlds_on.nd
    refine ⟨_, [some _, some _, some _, some _, none, none, none], ((pss_cons (ps_if (pt_not (pt_val (pe_callC C_is_sequence (hr.mono (by omega)) (by rfl) (pa_cons (pv 3) pa_nil)))) (pss_one (ps_raiseX rfl T_BadStep hr (takes_of rfl rfl rfl rfl) (pa_cons pe_int pa_nil) (by rfl))) pss_nil)
      (pss_cons (ps_set (i := 4) nd rfl (Or.inl rfl) (pe_lst (pa_cons (pv 1) pa_nil)))
      (pss_cons (ps_for (passes_of rfl) rfl (pi_enumK (K := K) rfl (by rfl) B.enumerate_ (pa_cons (pv 3) pa_nil)) (pg_seqK (K := K) (n := 2) rfl rfl (pgs_cons (pg_name (i := 5) nd rfl (by first | exact Or.inl rfl | exact Or.inr rfl)) (pgs_cons (pg_name (i := 6) nd rfl (by first | exact Or.inl rfl | exact Or.inr rfl)) pgs_nil))) (pss_cons (ps_if (PW.pt (pw_or (pt_cmpR (op_eqK (K := K) rfl (hu64 hr)) (pe_op (op_addK (K := K) rfl) (pv 2) (pv 5)) (pe_gint (by rfl) cs.MOST_DEEDS) (nomark _)) (pw_or1 (pt_not (pt_val (pe_callC C_can_be_done (hr.mono (by omega)) (by rfl) (pa_cons (pv 0) (pa_cons (pe_ix (ix_seqK (K := K) rfl) (pv 4) (pe_un un_neg pe_int) (fun _ _ => rfl)) (pa_cons (pv 6) pa_nil))))))))) (pss_one (ps_raiseX rfl T_BadStep hr (takes_of rfl rfl rfl rfl) (pa_cons (pv 5) pa_nil) (by rfl))) pss_nil)
      (pss_one (ps_expr (pe_bmK (K := K) rfl PySem.F.plainAttrs_list PySem.F.slot_list_append PySem.F.type_list_append mt_append (pv 4) (pa_cons (pe_callXC C_done (hr.mono (by omega)) (by rfl) (fun σ => passAt (takes_of rfl rfl rfl rfl) σ) (pa_cons (pv 0) (pa_cons (pe_ix (ix_seqK (K := K) rfl) (pv 4) (pe_un un_neg pe_int) (fun _ _ => rfl)) (pa_cons (pv 6) pa_nil)))) pa_nil))))))
      (pss_one (ps_ret (pe_callTy (call_tupK (K := K) rfl) (by rfl) B.tuple_ bo_tuple (pa_cons (pv 4) pa_nil)))))))), rfl, ?_⟩
    walk_at "q"
    refine ⟨G, u, d, rfl, eG, hu, hd, fun H0 e0 => ?_⟩
    walk_at "q"
    refine q_ifb (fun h => ?_) (fun h => ?_)
    · walk_at "q"
      exact fun dd hdd => no0 (by simpa using h) _ dd e0 hdd
    · have h' : dSeq d = true := by simpa using h
      obtain ⟨bd, ds, rfl⟩ : ∃ bd ds, d = sqD bd ds := by
        cases d with
        | list ds => exact ⟨false, ds, rfl⟩
        | tuple ds => exact ⟨true, ds, rfl⟩
        | _ => cases h'
      have hsq : Seq (sqD bd ds) ds := sqD_seq bd ds
      obtain ⟨yes, no⟩ := qq ds hsq
      have hlen := shp_len hsq hd
      walk_at "q"
      rename_i l hl
      have a0 : Acc l G H0 G _ [v] := Acc.first (eG.trans e0) hl
      refine q_forE bd ?_
      walk_at "q"
      refine q_en2 (G := G) hu a0.w (fun i σ' H' => ∃ z5 z6 vs G', σ' = [some (.ref a), some v, some (.int (m : Int)), some u, some (.ref l), z5, z6] ∧ Acc l G H0 G' H' vs ∧ Rps K G' vs (W.d b :: worldsM M W ds i) ∧ i ≤ ds.length ∧ GoesM M W (60 - m) ds i) ⟨none, none, [v], G, rfl, a0, .cons hv .nil, Nat.zero_le _, Nat.zero_le _, fun j d h => absurd h (by omega)⟩ ?_ ?_ ?_
      · rintro i σ' H' ⟨z5, z6, vs, G', rfl, ac, _⟩
        exact ac.gr.g.trans ac.w
      · rintro i d' u' σ' H' T hd' ⟨z5, z6, vs, G', rfl, ac, hr, hi, go⟩ ru hT
        have hi' : i < ds.length := (List.getElem?_eq_some_iff.mp hd').1
        have sd' : Shp d' := shp_mem hsq hd d' (List.mem_of_getElem? hd')
        have ac1 := ac.gro (Gro.up ac.w (Ex.new (o := .tup [.int (i : Nat), u']) hT))
        obtain ⟨b2, v2, ev2, rv2⟩ := last_won hr
        have w1 := ac1.w
        have hl1 := ac1.hl
        have eg := ac1.gr.g
        have i60 := go.1
        have wok2 : WdOk M (endM M W (ds.take i)) 900 := endM_ok (ds.take i) wok (by rw [List.length_take]; omega)
        generalize L2.upd H' T (.tup [.int (i : Nat), u']) = H1 at ac1 w1 hl1 ⊢
        walk_at "q"
        have stop : ¬ GoesM M W (60 - m) ds (i + 1) → ∀ dd H2, Ex H1 H2 → H2 dd = none → E (.ref CS) (some dd) (L2.upd H2 dd (.xd [("at", .int (i : Int))])) := fun z dd H2 e2 hdd => no i hi' go z H2 dd (e0.trans (ac1.gr.ex.trans e2)) hdd
        refine q_ifd (fun h1 => ?_) (fun h1 => ?_)
        · walk_at "q"
          exact fun dd hdd => stop (fun z => by have := z.1; omega) dd H1 (Ex.refl _) hdd
        · walk_at "q"
          refine q_ixC hl1 ev2 ?_
          walk_at "q"
          refine ⟨G', a, M, v2, b2, _, _, u', d', rfl, w1, hN.mono eg, ok, nok, rv2, wok2, by decide, ru.mono eg, sd', fun H2 e2 => ?_⟩
          walk_at "q"
          refine q_ifb (fun h2 => ?_) (fun h2 => ?_)
          · walk_at "q"
            exact fun dd hdd => stop (fun z => by rw [z.2 i d' (by omega) hd'] at h2; cases h2) dd H2 e2 hdd
          · have hc : canD M (endM M W (ds.take i)) d' = true := by simpa using h2
            have ac2 := ac1.gro (Gro.up w1 e2)
            have w2 := ac2.w
            have hl2 := ac2.hl
            walk_at "q"
            refine q_ixC hl2 ev2 ?_
            walk_at "q"
            refine ⟨G', a, M, v2, b2, _, _, u', d', rfl, w2, hN.mono eg, ok, nok, rv2, wok2, by decide, ru.mono eg, sd', fun _ D' G3 H3 p3 hs3 g3 r3 => ?_, fun z => absurd z (by rw [hc]; decide)⟩
            have ac3 := ac2.gro g3
            walk_at "q"
            refine q_append ac3.hl (line_lt (by rw [hr.len]; simp only [List.length_cons, worldsM, List.length_map, List.length_range]; omega)) ?_
            refine ⟨_, _, vs ++ [.ref p3], G3, rfl, ac3.put, ?_, by omega, by omega, fun j d'' hj hd'' => ?_⟩
            · rw [worldsM_next, endM_next hd', dOf_eq hs3, ← List.cons_append]
              exact (hr.mono g3.g).app (Rps.one r3)
            · by_cases z : j < i
              · exact go.2 j d'' z hd''
              · obtain rfl : j = i := by omega
                rw [hd'] at hd''
                cases hd''
                exact hc
      · rintro σ' H' ⟨z5, z6, vs, G', rfl, ac, hr, hi, go⟩
        walk_at "q"
        refine q_tupL ac.hl (fun p hp => ?_)
        have gk := (Gro.up eG e0).trans0 ac.know
        have g2 := gk.trans0 (Gro.new (o := .tup vs) gk.w hp)
        exact yes go _ _ p g2 (.tup (.inl (.inl upd_same)) ((hr.mono (Ex.new ac.gl)).mono (Ex.new (gk.w.back hp))))
abbrev s_played : Stmt := topS 45
abbrev N_played : List Str := ["net", "deeds"]
theorem sc_played : FnScope N_played ["net", "deeds"] (defScope s_played) := ⟨rfl, rfl, rfl, by decide +kernel, rfl, by decide +kernel, by decide +kernel⟩
theorem fn_played {C CS f : Addr} {fd : FuncData} (F : FnP K "played" s_played f fd) (C_start : Cal P w K mg base 1 "start" ["net"] (sp_start K C)) (C_worlds_on : CalX P w K mg base 7 "worlds_on" ["net", "world", "many", "deeds"] (sp_won K C CS)) : FnOk P w K mg base (L2.CX P w) 8 f fd ["net", "deeds"] (sp_played K C CS) := by
  refine fnokX_of F sc_played (fun vs H Q E h => ?_) (fun cdv A outer s H vs Q E hr h => ?_)
  · obtain ⟨_, _, _, _, _, rfl, _⟩ := h
    rfl
  · obtain ⟨G, a, M, u, d, rfl, eG, hN, ok, nok, hu, hd, no0, qq⟩ := h
    have nd := sc_played.nd
    refine ⟨_, [some _, some _], ((pss_one (ps_ret (pe_callXC C_worlds_on (hr.mono (by omega)) (by rfl) (fun σ => passAt (takes_of rfl rfl rfl rfl) σ) (pa_cons (pv 0) (pa_cons (pe_callC C_start (hr.mono (by omega)) (by rfl) (pa_cons (pv 0) pa_nil)) (pa_cons pe_int (pa_cons (pv 1) pa_nil)))))))), rfl, ?_⟩
    walk_at "q"
    refine ⟨G, a, M.N, rfl, eG, hN, by have := nok.lp; omega, by have := nok.lc; omega, fun G1 H1 p1 g1 r1 => ?_⟩
    rw [start_d] at r1
    walk_at "q"
    refine ⟨G1, a, M, _, true, startM M, 0, u, d, rfl, g1.w, hN.mono g1.g, ok, nok, r1, start_ok M, by decide, hu.mono g1.g, hd, fun z H2 dd e2 => no0 z H2 dd (g1.ex.trans e2), fun ds hs => ?_⟩
    obtain ⟨yes, no⟩ := qq ds hs
    exact ⟨fun go G2 H2 p g2 r2 => yes go G2 H2 p (g1.trans0 g2) r2, fun i hi go z H2 dd e2 => no i hi go z H2 dd (g1.ex.trans e2)⟩
theorem c_played {C CS f : Addr} {fd : FuncData} (F : FnP K "played" s_played f fd) (hm : mg "played" = some (.ref f)) (ok : FnOk P w K mg base (L2.CX P w) 8 f fd ["net", "deeds"] (sp_played K C CS)) : CalX P w K mg base 8 "played" ["net", "deeds"] (sp_played K C CS) :=
  calX_fn F hm ok (fun _ _ _ _ _ _ _ us hl => match us, hl with | [_, _], _ => rfl)
theorem ck_played {C CS f : Addr} {fd : FuncData} (F : FnP K "played" s_played f fd) (hm : mg "played" = some (.ref f)) (ok : FnOk P w K mg base (L2.CX P w) 8 f fd ["net", "deeds"] (sp_played K C CS)) : CalXK P w K mg base (L2.CX P w) 8 "played" ["net", "deeds"] ["net", "deeds"] [0, 1] (sp_played K C CS) :=
  calK_fn F hm ok (fun _ _ _ _ _ _ _ us hl => match us, hl with | [_, _], _ => rfl)
end
end Cw

set_option maxHeartbeats 4000000
namespace Cw
open PySem PySem.Spec PyProof.Rows L2
section
variable {P : Program} {w : World} {K : PySem.W.Frag} {mg : Str → Option Value} {base : Heap}
abbrev s__law_owner : Stmt := topS 68
abbrev N__law_owner : List Str := ["net", "deed"]
theorem sc__law_owner : FnScope N__law_owner ["net", "deed"] (defScope s__law_owner) := ⟨rfl, rfl, rfl, by decide +kernel, rfl, by decide +kernel, by decide +kernel⟩
theorem c_downer {f : Addr} {fd : FuncData} (F : FnP K "_law_owner" s__law_owner f fd) (hm : mg "_law_owner" = some (.ref f)) (B : Blt mg) : Cal P w K mg base 1 "_law_owner" ["net", "deed"] (sp_downer K) := by
  refine cal_of F hm sc__law_owner (fun _ _ _ _ _ _ _ us hl => match us, hl with | [_, _], _ => rfl) (fun vs H Q E h => ?_) (fun cdv A outer s H vs Q E hr h => ?_)
  · obtain ⟨_, _, _, _, _, rfl, _⟩ := h
    rfl
  · obtain ⟨G, n, M, u, D, rfl, eG, hN, hu, dv, q⟩ := h
    have nd := sc__law_owner.nd
    have rul : ∀ {r : Nat} {a : Act}, M.R[r]?.map Rul.a = some a → ∃ hr : r < M.R.length, True := fun {r a} h => by
      cases e : M.R[r]? with
      | none => rw [e] at h; cases h
      | some R => exact ⟨(List.getElem?_eq_some_iff.mp e).1, trivial⟩
    refine ⟨_, [some _, some _], ((pss_cons (ps_if (pt_cmpR (op_eqK (K := K) rfl (hu64 hr)) (pe_ix (ix_seqK (K := K) rfl) (pv 1) pe_int (fun _ _ => rfl)) pe_str (nomark _)) (pss_one (ps_ret (pe_ix (ix_seqK (K := K) rfl) (pe_ix (ix_seqK (K := K) rfl) (pe_dget (hu1 hr) (pv 0) pe_str (fun _ _ => rfl)) (pe_ix (ix_seqK (K := K) rfl) (pv 1) pe_int (fun _ _ => rfl)) (fun _ _ => rfl)) pe_int (fun _ _ => rfl)))) pss_nil)
      (pss_one (ps_ret (pe_ix (ix_seqK (K := K) rfl) (pe_ix (ix_seqK (K := K) rfl) (pe_dget (hu1 hr) (pv 0) pe_str (fun _ _ => rfl)) (pe_ix (ix_seqK (K := K) rfl) (pv 1) pe_int (fun _ _ => rfl)) (fun _ _ => rfl)) pe_int (fun _ _ => rfl)))))), rfl, ?_⟩
    walk_at "q"
    cases D with
    | lose c k =>
      have hc : c < M.C.length := dv
      refine q_ixRT hu eG (atI_nat (j := 0) rfl) (fun u0 hu0 => ?_)
      cases hu0
      walk_at "q"
      refine q_nlC hN eG (fun p hp => ?_)
      walk_at "q"
      refine q_ixRT hu eG (atI_nat (j := 1) rfl) (fun u1 hu1 => ?_)
      obtain rfl := rp_nD hu1
      refine q_ixRL hp eG (MN.chan hc) (fun u2 hu2 => ?_)
      walk_at "q"
      refine q_ixRT hu2 eG (atI_nat (j := 2) rfl) (fun u3 hu3 => ?_)
      obtain rfl := rp_nD hu3
      have h := q H (Ex.refl _)
      rw [show ownM M (.lose c k) = M.C[c].t from by simp only [ownM, List.getElem?_eq_getElem hc]] at h
      exact h
    | act r =>
      obtain ⟨a, ha, _⟩ := dv
      obtain ⟨hr, _⟩ := rul ha
      refine q_ixRT hu eG (atI_nat (j := 0) rfl) (fun u0 hu0 => ?_)
      cases hu0
      walk_at "q"
      refine q_nlR hN eG (fun p hp => ?_)
      walk_at "q"
      refine q_ixRT hu eG (atI_nat (j := 1) rfl) (fun u1 hu1 => ?_)
      obtain rfl := rp_nD hu1
      refine q_ixRL hp eG (MN.rule hr) (fun u2 hu2 => ?_)
      walk_at "q"
      refine q_ixRT hu2 eG (atI_nat (j := 0) rfl) (fun u3 hu3 => ?_)
      obtain rfl := rp_nD hu3
      have h := q H (Ex.refl _)
      rw [show ownM M (.act r) = M.R[r].p from by simp only [ownM, List.getElem?_eq_getElem hr]] at h
      exact h
    | take r k =>
      obtain ⟨c, t, ha⟩ := dv
      obtain ⟨hr, _⟩ := rul ha
      refine q_ixRT hu eG (atI_nat (j := 0) rfl) (fun u0 hu0 => ?_)
      cases hu0
      walk_at "q"
      refine q_nlR hN eG (fun p hp => ?_)
      walk_at "q"
      refine q_ixRT hu eG (atI_nat (j := 1) rfl) (fun u1 hu1 => ?_)
      obtain rfl := rp_nD hu1
      refine q_ixRL hp eG (MN.rule hr) (fun u2 hu2 => ?_)
      walk_at "q"
      refine q_ixRT hu2 eG (atI_nat (j := 0) rfl) (fun u3 hu3 => ?_)
      obtain rfl := rp_nD hu3
      have h := q H (Ex.refl _)
      rw [show ownM M (.take r k) = M.R[r].p from by simp only [ownM, List.getElem?_eq_getElem hr]] at h
      exact h
abbrev s__law_run : Stmt := topS 70
abbrev N__law_run : List Str := ["pool", "net", "most", "worlds", "deeds", "k", "options"]
theorem sc__law_run : FnScope N__law_run ["pool", "net", "most"] (defScope s__law_run) := ⟨rfl, rfl, rfl, by decide +kernel, rfl, by decide +kernel, by decide +kernel⟩
theorem c_prun {f : Addr} {fd : FuncData} (F : FnP K "_law_run" s__law_run f fd) (hm : mg "_law_run" = some (.ref f)) (B : Blt mg) (C__law_take : Cal P w K mg base 2 "_law_take" ["pool", "many"] (sp_take K)) (C__law_start : Cal P w K mg base 1 "_law_start" ["net"] (sp_dstart K)) (C__law_possible : Cal P w K mg base 2 "_law_possible" ["net", "world"] (sp_dposs K)) (C__law_done : Cal P w K mg base 1 "_law_done" ["net", "world", "deed"] (sp_ddone K)) :
    Cal P w K mg base 3 "_law_run" ["pool", "net", "most"] (sp_prun K) := by
  refine cal_of F hm sc__law_run (fun _ _ _ _ _ _ _ us hl => match us, hl with | [_, _, _], _ => rfl) (fun vs H Q E h => ?_) (fun cdv A outer s H vs Q E hr h => ?_)
  · obtain ⟨_, _, _, _, _, _, rfl, _⟩ := h
    rfl
  · obtain ⟨G, b, n, kvs, M, most, rfl, eG, gb, hb, hB, hN, ok, hmost, q⟩ := h
    have nd := sc__law_run.nd
    have s0 := Bx.start eG gb hb hB
    refine ⟨_, [some _, some _, some _, none, none, none, none], ((pss_cons (ps_set (i := 3) nd rfl (Or.inl rfl) (pe_lst (pa_cons (pe_callC C__law_start (hr.mono (by omega)) (by rfl) (pa_cons (pv 1) pa_nil)) pa_nil)))
      (pss_cons (ps_set (i := 4) nd rfl (Or.inl rfl) (pe_lst pa_nil))
      (pss_cons (ps_for PassesOwn.never rfl (pi_range1 (by rfl) B.range_ (pa_cons (pe_ix (ix_seqK (K := K) rfl) (pe_lst (pa_cons (pv 2) (pa_cons (pe_callC C__law_take (hr.mono (by omega)) (by rfl) (pa_cons (pv 0) (pa_cons (pe_op (op_addK (K := K) rfl) (pv 2) pe_int) pa_nil))) (pa_cons (pe_op op_fdiv (pv 2) pe_int) pa_nil)))) (pe_callC C__law_take (hr.mono (by omega)) (by rfl) (pa_cons (pv 0) (pa_cons pe_int pa_nil))) (fun _ _ => rfl)) pa_nil)) (pg_name (i := 5) nd rfl (by first | exact Or.inl rfl | exact Or.inr rfl)) (pss_cons (ps_set (i := 6) nd rfl (Or.inl rfl) (pe_callC C__law_possible (hr.mono (by omega)) (by rfl) (pa_cons (pv 1) (pa_cons (pe_ix (ix_seqK (K := K) rfl) (pv 3) (pe_un un_neg pe_int) (fun _ _ => rfl)) pa_nil))))
      (pss_cons (ps_if (pt_cmpR (op_eqK (K := K) rfl (hu64 hr)) (pe_callB (call_lenK (K := K) rfl) (by rfl) B.len_ bo_len (pa_cons (pv 6) pa_nil)) pe_int (nomark _)) (pss_one ps_break) pss_nil)
      (pss_cons (ps_expr (pe_bmK (K := K) rfl PySem.F.plainAttrs_list PySem.F.slot_list_append PySem.F.type_list_append mt_append (pv 4) (pa_cons (pe_ix (ix_seqK (K := K) rfl) (pv 6) (pe_callC C__law_take (hr.mono (by omega)) (by rfl) (pa_cons (pv 0) (pa_cons (pe_callB (call_lenK (K := K) rfl) (by rfl) B.len_ bo_len (pa_cons (pv 6) pa_nil)) pa_nil))) (fun _ _ => rfl)) pa_nil)))
      (pss_one (ps_expr (pe_bmK (K := K) rfl PySem.F.plainAttrs_list PySem.F.slot_list_append PySem.F.type_list_append mt_append (pv 3) (pa_cons (pe_callC C__law_done (hr.mono (by omega)) (by rfl) (pa_cons (pv 1) (pa_cons (pe_ix (ix_seqK (K := K) rfl) (pv 3) (pe_un un_neg pe_int) (fun _ _ => rfl)) (pa_cons (pe_ix (ix_seqK (K := K) rfl) (pv 4) (pe_un un_neg pe_int) (fun _ _ => rfl)) pa_nil)))) pa_nil))))))))
      (pss_one (ps_ret (pe_tup (pa_cons (pv 4) (pa_cons (pv 3) pa_nil))))))))), rfl, ?_⟩
    walk_at "q"
    refine ⟨G, n, M, rfl, eG, hN, ok, fun G1 H1 p1 g1 r1 => ?_⟩
    have s1 := s0.gro g1
    walk_at "q"
    rename_i lw hlw ld hld
    have s2 := s1.open_ (o := .lst [.ref p1]) hlw
    generalize L2.upd H1 lw (.lst [.ref p1]) = H2 at s2 hld ⊢
    have s3 := s2.open_ (o := .lst []) hld
    generalize L2.upd H2 ld (.lst []) = H3 at s3 ⊢
    clear s2 s1 s0 hlw hld
    have fin : ∀ ds ws Ds G' H' p, Ex G1 G' → Bx K b G H G' H' [(ld, .lst ds), (lw, .lst ws)] → Rps K G' ds (Ds.map Deed.d) → Rps K G' ws ((startM M :: runW M (startM M) Ds).map Wd.lw) → RunM M (startM M) Ds → Ds.length ≤ most → H' p = none → Q (.ref p) (L2.upd H' p (.tup [.ref ld, .ref lw])) := fun ds ws Ds G' H' p e1 s' r1 r2 hR hl hp => by
      obtain ⟨Ga, ea, ka, sa⟩ := s'.close
      obtain ⟨Gb, eb, kb, sb⟩ := sa.close
      obtain ⟨Gc, ec, kc, sc⟩ := sb.made (o := .tup [.ref ld, .ref lw]) hp
      exact q (.ref p) Ds Gc _ sc (.tup (.inl (.inl kc)) (.cons (.lst (ec _ _ (eb _ _ ka)) (r1.mono (ea.trans (eb.trans ec)))) (.cons (.lst (ec _ _ kb) (r2.mono (ea.trans (eb.trans ec)))) .nil))) hR hl
    refine s3.take (by omega) (by omega) (fun t4 H4 ht4 s4 => ?_)
    walk_at "q"
    rename_i p5 hp5
    obtain ⟨G5, e5, k5, s5⟩ := s4.made (o := .lst [.int (most : Int), .int (t4 : Int), .int ((most : Int) / 2)]) hp5
    refine s5.take (by decide) (by decide) (fun i6 H6 hi6 s6 => ?_)
    refine q_ixLn (.inl (.inl (s6.ww _ _ k5))) (by omega) hi6 (fun v hv => ?_)
    obtain ⟨turns, rfl, ht⟩ : ∃ k : Nat, v = .int (k : Int) ∧ k ≤ most := by
      simp only [List.mem_cons, List.mem_nil_iff, or_false] at hv
      rcases hv with rfl | rfl | rfl
      · exact ⟨most, rfl, Nat.le_refl _⟩
      · exact ⟨t4, rfl, by omega⟩
      · exact ⟨most / 2, by rw [show ((most : Int) / 2) = ((most / 2 : Nat) : Int) by omega], by omega⟩
    clear s5 s4 s3 k5 hp5
    walk_at "q"
    refine q_rng1 turns (by omega) (fun i σ' H' => ∃ z5 z6 ds ws Ds G', σ' = [some (.ref b), some (.ref n), some (.int (most : Int)), some (.ref lw), some (.ref ld), z5, z6] ∧ Ex G5 G' ∧ Bx K b G H G' H' [(ld, .lst ds), (lw, .lst ws)] ∧ Rps K G' ds (Ds.map Deed.d) ∧ Rps K G' ws ((startM M :: runW M (startM M) Ds).map Wd.lw) ∧ RunM M (startM M) Ds ∧ Ds.length = i)
      ⟨none, none, [], [.ref p1], [], G5, rfl, Ex.refl _, s6, .nil, .cons (r1.mono e5) .nil, trivial, rfl⟩ ?_ ?_
    · rintro i σ' H' hi ⟨z5, z6, ds, ws, Ds, G', rfl, eg, s', rd, rw', hR, hl⟩
      obtain ⟨ini, eini, lini⟩ := runW_last (M := M) Ds (startM M)
      have rw2 := rw'
      rw [eini, List.map_append] at rw2
      obtain ⟨v, ev, rv⟩ := last_rps rw2
      have wok : WdOk M (endW M (startM M) Ds) 60 := endW_ok Ds (start_ok M) (by omega)
      have h1 := s'.at1
      walk_at "q"
      refine q_ixC h1 ev ?_
      walk_at "q"
      refine ⟨G', n, M, v, endW M (startM M) Ds, 60, rfl, s'.ww, hN.mono (g1.g.trans (e5.trans eg)), ok, rv, wok, by decide, fun G7 H7 p7 g7 r7 => ?_⟩
      have s7 := s'.gro g7
      have eg7 := eg.trans g7.g
      walk_at "q"
      refine q_lenRL r7 s7.ww ?_
      rw [List.length_map]
      walk_at "q"
      refine q_ifd (fun h => ?_) (fun h => ?_)
      · walk_at "q"
        rename_i p hp
        exact fin ds ws Ds G7 H7 p (e5.trans eg7) s7 (rd.mono g7.g) (rw'.mono g7.g) hR (by omega) hp
      · have h0 := s7.at0
        have pl := poss_len ok wok (by decide)
        walk_at "q"
        refine q_lenRL r7 s7.ww ?_
        rw [List.length_map]
        walk_at "q"
        refine s7.take (by omega) (by omega) (fun j H8 hj s8 => ?_)
        have hj2 : j < (possM M (endW M (startM M) Ds)).length := by omega
        have w8 := s8.ww
        refine q_ixRL r7 w8 (at_map hj2) (fun u hu => ?_)
        have hD := List.getElem_mem hj2
        generalize (possM M (endW M (startM M) Ds))[j] = D at hu hD
        walk_at "q"
        refine q_append s8.at0 (line_lt (by rw [rd.len, List.length_map]; omega)) ?_
        have s9 := s8.put0 (.lst (ds ++ [u]))
        generalize L2.upd H8 ld (.lst (ds ++ [u])) = H9 at s9 ⊢
        have h0 := s9.at0
        have h1 := s9.at1
        have w9 := s9.ww
        walk_at "q"
        refine q_ixC h1 ev ?_
        walk_at "q"
        refine q_ixC h0 atI_last ?_
        walk_at "q"
        refine ⟨G7, n, M, v, u, endW M (startM M) Ds, 60, D, rfl, w9, hN.mono (g1.g.trans (e5.trans eg7)), ok, rv.mono g7.g, wok, by decide, hu, poss_dv hD, fun Ga Ha pa ga ra => ?_⟩
        have sa := s9.gro ga
        walk_at "q"
        refine q_append sa.at1 (line_lt (by rw [rw'.len, List.length_map, List.length_cons, runW_len]; omega)) ?_
        refine ⟨_, _, _, _, Ds ++ [D], Ga, rfl, eg7.trans ga.g, sa.put1 _, ?_, ?_, RunM.app.mpr ⟨hR, hD, trivial⟩, by rw [List.length_append, hl] <;> rfl⟩
        · rw [List.map_append]
          exact (rd.mono (g7.g.trans ga.g)).app (Rps.one (hu.mono ga.g))
        · rw [runW_app, ← List.cons_append, List.map_append]
          exact (rw'.mono (g7.g.trans ga.g)).app (Rps.one ra)
    · rintro σ' H' ⟨z5, z6, ds, ws, Ds, G', rfl, eg, s', rd, rw', hR, hl⟩
      walk_at "q"
      rename_i p hp
      exact fin ds ws Ds G' H' p (e5.trans eg) s' rd rw' hR (by omega) hp
end
end Cw

set_option maxHeartbeats 4000000
namespace Cw
open PySem PySem.Spec PyProof.Rows L2
section
variable {P : Program} {w : World} {K : PySem.W.Frag} {mg : Str → Option Value} {base : Heap}
abbrev s_owner : Stmt := topS 32
abbrev N_owner : List Str := ["net", "deed"]
theorem sc_owner : FnScope N_owner ["net", "deed"] (defScope s_owner) := ⟨rfl, rfl, rfl, by decide +kernel, rfl, by decide +kernel, by decide +kernel⟩
theorem fn_owner {C CS f : Addr} {fd : FuncData} (F : FnP K "owner" s_owner f fd) (B : Blt mg) (nt : NtC K mg C) (T_BadStep : Xn K mg "BadStep" "at" CS) (C_is_deed : Cal P w K mg base 4 "is_deed" ["net", "deed"] (spNetB K C isDeedD)) : FnOk P w K mg base (L2.CX P w) 5 f fd ["net", "deed"] (sp_owner K C CS) := by
  refine fnokX_of F sc_owner (fun vs H Q E h => ?_) (fun cdv A outer s H vs Q E hr h => ?_)
  · obtain ⟨_, _, _, _, _, rfl, _⟩ := h
    rfl
  · obtain ⟨G, a, N, v, d, rfl, eG, hN, ok, hv, hd, yes, no⟩ := h
    have nd := sc_owner.nd
    refine ⟨_, [some _, some _], ((pss_cons (ps_if (pt_not (pt_val (pe_callC C_is_deed (hr.mono (by omega)) (by rfl) (pa_cons (pv 0) (pa_cons (pv 1) pa_nil))))) (pss_one (ps_raiseX rfl T_BadStep hr (takes_of rfl rfl rfl rfl) (pa_cons pe_int pa_nil) (by rfl))) pss_nil)
      (pss_cons (ps_if (pt_cmpR (op_eqK (K := K) rfl (hu64 hr)) (pe_ix (ix_seqK (K := K) rfl) (pv 1) pe_int (fun _ _ => rfl)) pe_str (nomark _)) (pss_one (ps_ret (pe_ix (ix_seqK (K := K) rfl) (pe_ix (ix_seqK (K := K) rfl) (pe_fldK (K := K) rfl (pv 0)) (pe_ix (ix_seqK (K := K) rfl) (pv 1) pe_int (fun _ _ => rfl)) (fun _ _ => rfl)) pe_int (fun _ _ => rfl)))) pss_nil)
      (pss_one (ps_ret (pe_ix (ix_seqK (K := K) rfl) (pe_ix (ix_seqK (K := K) rfl) (pe_fldK (K := K) rfl (pv 0)) (pe_ix (ix_seqK (K := K) rfl) (pv 1) pe_int (fun _ _ => rfl)) (fun _ _ => rfl)) pe_int (fun _ _ => rfl))))))), rfl, ?_⟩
    walk_at "q"
    refine ⟨G, a, N, v, d, rfl, eG, hN, ok, hv, hd, fun H1 e1 => ?_⟩
    walk_at "q"
    refine q_ifb (fun h => ?_) (fun h => ?_)
    · walk_at "q"
      exact fun dd hdd => no (by simpa using h) _ dd (by walk_at "ex") hdd
    · have h' : isDeedD N d = true := by simpa using h
      have yes' := yes h'
      walk_at "q"
      rcases deed_is h' with ⟨x0, k, r, hk, hs, hl⟩ | ⟨x0, k, r, hk, hs, hl⟩
      · have h0 := shp_mem hs hd x0 (by simp)
        obtain ⟨p, st, wd, as, t, er⟩ := ok.r _ (List.getElem_mem hk)
        have ev : ownerD N d = .int p := by
          rw [ownerD, show atD d 0 = x0 from Seq.at hs 0, show atD d 1 = .int k from Seq.at hs 1, hl, if_neg Bool.false_ne_true]
          show atD (N.r.getD k .none) 0 = _
          rw [List.getD_eq_getElem?_getD, List.getElem?_eq_getElem hk]
          show atD N.r[k] 0 = _
          rw [er] <;> rfl
        rw [ev] at yes'
        refine q_ixRS hv hs (by walk_at "ex") (atI_nat (j := 0) rfl) (fun u hu => ?_)
        walk_at "q"
        refine q_eqR hu (.str _) (by walk_at "ex") h0 (shp_word (by decide +kernel)) ?_
        walk_at "q"
        refine q_ifFa hl ?_
        walk_at "q"
        rename_i vr hvr
        refine q_ixRS hv hs (by walk_at "ex") (atI_nat (j := 1) rfl) (fun u1 hu1 => ?_)
        cases hu1
        refine q_ixRT hvr (by walk_at "ex") (atI_at hk) (fun u2 hu2 => ?_)
        rw [er] at hu2
        walk_at "q"
        refine q_ixRT hu2 (by walk_at "ex") rfl (fun u3 hu3 => ?_)
        exact yes' _ _ (by walk_at "ex") hu3
      · have h0 := shp_mem hs hd x0 (by simp)
        obtain ⟨z, gv, tk, kd, ec⟩ := ok.c _ (List.getElem_mem hk)
        have ev : ownerD N d = .int tk := by
          rw [ownerD, show atD d 0 = x0 from Seq.at hs 0, show atD d 1 = .int k from Seq.at hs 1, hl, if_pos rfl]
          show atD (N.c.getD k .none) 2 = _
          rw [List.getD_eq_getElem?_getD, List.getElem?_eq_getElem hk]
          show atD N.c[k] 2 = _
          rw [ec] <;> rfl
        rw [ev] at yes'
        refine q_ixRS hv hs (by walk_at "ex") (atI_nat (j := 0) rfl) (fun u hu => ?_)
        walk_at "q"
        refine q_eqR hu (.str _) (by walk_at "ex") h0 (shp_word (by decide +kernel)) ?_
        walk_at "q"
        refine q_ifTr hl ?_
        walk_at "q"
        rename_i vr hvr
        refine q_ixRS hv hs (by walk_at "ex") (atI_nat (j := 1) rfl) (fun u1 hu1 => ?_)
        cases hu1
        refine q_ixRT hvr (by walk_at "ex") (atI_at hk) (fun u2 hu2 => ?_)
        rw [ec] at hu2
        walk_at "q"
        refine q_ixRT hu2 (by walk_at "ex") rfl (fun u3 hu3 => ?_)
        exact yes' _ _ (by walk_at "ex") hu3
theorem c_owner {C CS f : Addr} {fd : FuncData} (F : FnP K "owner" s_owner f fd) (hm : mg "owner" = some (.ref f)) (ok : FnOk P w K mg base (L2.CX P w) 5 f fd ["net", "deed"] (sp_owner K C CS)) : CalX P w K mg base 5 "owner" ["net", "deed"] (sp_owner K C CS) :=
  calX_fn F hm ok (fun _ _ _ _ _ _ _ us hl => match us, hl with | [_, _], _ => rfl)
theorem ck_owner {C CS f : Addr} {fd : FuncData} (F : FnP K "owner" s_owner f fd) (hm : mg "owner" = some (.ref f)) (ok : FnOk P w K mg base (L2.CX P w) 5 f fd ["net", "deed"] (sp_owner K C CS)) : CalXK P w K mg base (L2.CX P w) 5 "owner" ["net", "deed"] ["deed", "net"] [1, 0] (sp_owner K C CS) :=
  calK_fn F hm ok (fun _ _ _ _ _ _ _ us hl => match us, hl with | [_, _], _ => rfl)
end
end Cw

set_option maxHeartbeats 4000000
namespace Cw
open PySem PySem.Spec PyProof.Rows L2
section
variable {P : Program} {w : World} {K : PySem.W.Frag} {mg : Str → Option Value} {base : Heap}
abbrev s_rows_of : Stmt := topS 49
abbrev N_rows_of : List Str := ["net", "deeds", "rows", "deed", "_", "row"]
theorem sc_rows_of : FnScope N_rows_of ["net", "deeds"] (defScope s_rows_of) := ⟨rfl, rfl, rfl, by decide +kernel, rfl, by decide +kernel, by decide +kernel⟩
def sp_rowsof (K : PySem.W.Frag) (C : Addr) : Sp := fun vs H Q _ => ∃ (G : Hp) (a : Addr) (M : MN) (u : V) (b c : Bool) (Ds : List Deed), vs = [.ref a, u] ∧ Ex G H ∧ NetAt K C G a M.N ∧ MNet M ∧ NOk M.N ∧ Rp K G u (sqD c (Ds.map (sqd b))) ∧ Ds.length ≤ 1000 ∧ (∀ D ∈ Ds, DV M D ∧ lsD M D) ∧
  ∀ G2 H2 p, Gro none G H G2 H2 → Rp K G2 (.ref p) (histD M Ds) → Q (.ref p) H2
theorem c_rowsof {C CS f : Addr} {fd : FuncData} (F : FnP K "rows_of" s_rows_of f fd) (hm : mg "rows_of" = some (.ref f)) (B : Blt mg) (nt : NtC K mg C) (C_owner : CalX P w K mg base 5 "owner" ["net", "deed"] (sp_owner K C CS)) : CalX P w K mg base 6 "rows_of" ["net", "deeds"] (sp_rowsof K C) := by
  refine calX_of F hm sc_rows_of (fun _ _ _ _ _ _ _ us hl => match us, hl with | [_, _], _ => rfl) (fun vs H Q E h => ?_) (fun cdv A outer s H vs Q E hr h => ?_)
  · obtain ⟨_, _, _, _, _, _, _, rfl, _⟩ := h
    rfl
  · obtain ⟨G, a, M, u, b, c, Ds, rfl, eG, hA, mn, nok, hu, hl, hD, q⟩ := h
    have nd := sc_rows_of.nd
    have lp := mn.ok.lp
    refine ⟨_, [some _, some _, none, none, none, none], ((pss_cons (ps_setLc (i := 2) (own := [("_", 4)]) rfl nd rfl rfl (sw_true rfl rfl rfl (by decide +kernel)) (pi_seqK (K := K) rfl (pe_fldK (K := K) rfl (pv 0))) (blkOk_by (N := N_rows_of) (sc := defScope s_rows_of) (by decide +kernel)) (fun _ _ _ _ _ => (pg_name (i := 4) nd rfl (by first | exact Or.inl rfl | exact Or.inr rfl))) (fun _ _ _ _ _ => pts_nil) (fun _ _ _ _ _ => (pe_lst pa_nil)))
      (pss_cons (ps_for (passes_of rfl) rfl (pi_seqK (K := K) rfl (pv 1)) (pg_name (i := 3) nd rfl (by first | exact Or.inl rfl | exact Or.inr rfl)) (pss_one (ps_expr (pe_bmK (K := K) rfl PySem.F.plainAttrs_list PySem.F.slot_list_append PySem.F.type_list_append mt_append (pe_ix (ix_seqK (K := K) rfl) (pv 2) (pe_callXC C_owner (hr.mono (by omega)) (by rfl) (fun σ => passAt (takes_of rfl rfl rfl rfl) σ) (pa_cons (pv 0) (pa_cons (pv 3) pa_nil))) (fun _ _ => rfl)) (pa_cons (pe_callTy (call_tupK (K := K) rfl) (by rfl) B.tuple_ bo_tuple (pa_cons (pv 3) pa_nil)) pa_nil)))))
      (pss_one (ps_ret (pe_callTy (call_tupK (K := K) rfl) (by rfl) B.tuple_ bo_tuple (pa_cons (pe_lc (own := [("row", 5)]) rfl nd (pi_seqK (K := K) rfl (pv 2)) (blkOk_by (N := N_rows_of) (sc := defScope s_rows_of) (by decide +kernel)) (fun _ _ _ _ _ => (pg_name (i := 5) nd rfl (by first | exact Or.inl rfl | exact Or.inr rfl))) (fun _ _ _ _ _ => pts_nil) (fun _ _ _ _ _ => (pe_callTy (call_tupK (K := K) rfl) (by rfl) B.tuple_ bo_tuple (pa_cons (pv 5) pa_nil)))) pa_nil))))))), rfl, ?_⟩
    walk_at "q"
    refine q_lcT ?_
    walk_at "q"
    rename_i vp hvp
    refine q_newT hvp eG (by show M.ps.length ≤ 1000; omega) (fun u' H' Cc N hC => ?_) (fun D as G1 H1 s1 hD1 => ?_)
    · walk_at "q"
      refine ⟨rfl, ?_⟩
      walk_at "q"
      rename_i p hp
      exact hC p hp
    have s1' : Rw G H G1 H1 M.ps.length as (fun _ => []) := s1
    have hD1' : G1 D = some (.lst ((List.range M.ps.length).map fun j => V.ref (as j))) := hD1
    walk_at "q"
    refine q_forS c ?_
    walk_at "q"
    refine q_sq_for (G := G1) (hu.mono s1.g) s1'.ww (fun i σ' H' => ∃ z3 f G', σ' = [some (.ref a), some u, some (.ref D), z3, none, none] ∧ Ex G1 G' ∧ Rw G H G' H' M.ps.length as f ∧ ∀ p, p < M.ps.length → Rps K G' (f p) ((rowH M (Ds.take i) p).map Deed.d)) ⟨none, fun _ => [], G1, rfl, Ex.refl _, s1', fun p _ => .nil⟩ ?_ ?_ ?_
    · rintro i σ' H' ⟨z3, f, G', rfl, eg, s', _⟩
      exact eg.trans s'.ww
    · rintro i d u' σ' H' hd ⟨z3, f, G', rfl, eg, s', hf⟩ ru
      obtain ⟨D0, hD0, rfl⟩ := at_sqd hd
      obtain ⟨dv, ls⟩ := hD D0 (List.mem_of_getElem? hD0)
      have ho := own_lt mn dv
      walk_at "q"
      refine ⟨G', a, M.N, u', _, rfl, s'.ww, hA.mono (s1.g.trans eg), nok, ru.mono eg, okD_le (okD_sqd b D0) (by decide), fun _ H2 uo e2 ruo => ?_, fun z => absurd z (by rw [isD_sqd, isD_of dv ls]; decide)⟩
      rw [own_sqd dv] at ruo
      obtain rfl := rp_nD ruo
      have s2 := s'.up e2
      refine q_ixL (.inl (.inl (s2.ww _ _ (eg _ _ hD1')))) (atI_nat (by rw [List.getElem?_map, List.getElem?_range ho] <;> rfl)) ?_
      have h1 := s2.at_ ho
      walk_at "q"
      refine q_tupRS (ru.mono eg) (sqd_seq b D0) s2.ww (fun G3 H3 p3 g3 r3 => ?_)
      have s3 := s2.gro g3
      walk_at "q"
      refine q_append (s3.at_ ho) (line_lt (by rw [(hf _ ho).len, List.length_map]; have := rowH_len M (Ds.take i) (ownM M D0); have := List.length_take_le i Ds; have := (List.getElem?_eq_some_iff.mp hD0).1; omega)) ?_
      refine ⟨_, _, G3, rfl, eg.trans g3.g, s3.put ho _, fun p hp => ?_⟩
      rw [List.take_add_one, hD0, Option.toList_some, rowH_snoc]
      by_cases z : p = ownM M D0
      · subst z
        rw [if_pos rfl, if_pos rfl, List.map_append]
        exact ((hf _ hp).mono g3.g).app (Rps.one r3)
      · rw [if_neg z, if_neg z]
        exact (hf p hp).mono g3.g
    · rintro σ' H' ⟨z3, f, G', rfl, eg, s', hf⟩
      rw [List.length_map, List.take_length] at hf
      obtain ⟨G2, e2, k2, g2⟩ := s'.know
      have rD := rows_rp (K := K) ((eg.trans e2) _ _ hD1') k2 (fun p hp => (hf p hp).mono e2)
      walk_at "q"
      refine q_lcL ?_
      walk_at "q"
      refine q_fmL (h := fun p => PyData.list ((rowH M Ds p).map Deed.d)) (f := fun p => some (deedsD (rowH M Ds p))) rD g2.w (by rw [List.length_range]; omega) (fun i p u3 G3 H3 hp gr3 ru3 Cc N yes no => ?_) (fun G3 H3 D3 g3 hD3 r3 => ?_)
      · walk_at "q"
        refine ⟨rfl, ?_⟩
        walk_at "q"
        refine q_tupRS ru3 (.inl rfl) gr3.w (fun G4 H4 p4 g4 r4 => ?_)
        exact yes _ _ _ _ rfl g4 r4
      rw [fm_map] at r3
      walk_at "q"
      refine q_tupRS r3 (.inl rfl) g3.w (fun G4 H4 p4 g4 r4 => ?_)
      refine q G4 H4 p4 ((g2.trans0 g3).trans0 g4) ?_
      rw [histD, histM, List.map_map]
      exact r4
abbrev s_history : Stmt := topS 48
abbrev N_history : List Str := ["net", "deeds"]
theorem sc_history : FnScope N_history ["net", "deeds"] (defScope s_history) := ⟨rfl, rfl, rfl, by decide +kernel, rfl, by decide +kernel, by decide +kernel⟩
/-- what is handed in is a run, or goes wrong at a place -/
def sp_hist (K : PySem.W.Frag) (C CS : Addr) : Sp := fun vs H Q E => ∃ (G : Hp) (a : Addr) (M : MN) (u : V) (d : PyData), vs = [.ref a, u] ∧ Ex G H ∧ NetAt K C G a M.N ∧ MNet M ∧ NOk M.N ∧ Rp K G u d ∧ Shp d ∧
  ((∃ (b c : Bool) (Ds : List Deed), d = sqD c (Ds.map (sqd b)) ∧ RunM M (startM M) Ds ∧ Ds.length ≤ 60 ∧ ∀ G2 H2 p, Gro none G H G2 H2 → Rp K G2 (.ref p) (histD M Ds) → Q (.ref p) H2) ∨
   (∃ (ds : List PyData) (i : Nat), Seq d ds ∧ i < ds.length ∧ GoesM M (startM M) 60 ds i ∧ ¬ GoesM M (startM M) 60 ds (i + 1) ∧ ∀ H1 dd, Ex H H1 → H1 dd = none → E (.ref CS) (some dd) (L2.upd H1 dd (.xd [("at", .int (i : Int))]))))
theorem seq_one {d : PyData} {ds es : List PyData} (h : Seq d ds) (k : Seq d es) : ds = es := Option.some.inj ((Seq.items h).symm.trans (Seq.items k))
theorem c_hist {C CS f : Addr} {fd : FuncData} (F : FnP K "history" s_history f fd) (hm : mg "history" = some (.ref f)) (C_played : CalX P w K mg base 8 "played" ["net", "deeds"] (sp_played K C CS)) (C_rows_of : CalX P w K mg base 6 "rows_of" ["net", "deeds"] (sp_rowsof K C)) : CalX P w K mg base 9 "history" ["net", "deeds"] (sp_hist K C CS) := by
  refine calX_of F hm sc_history (fun _ _ _ _ _ _ _ us hl => match us, hl with | [_, _], _ => rfl) (fun vs H Q E h => ?_) (fun cdv A outer s H vs Q E hr h => ?_)
  · obtain ⟨_, _, _, _, _, rfl, _⟩ := h
    rfl
  · obtain ⟨G, a, M, u, d, rfl, eG, hA, mn, nok, hu, hd, hh⟩ := h
    have nd := sc_history.nd
    refine ⟨_, [some _, some _], ((pss_cons (ps_expr (pe_callXC C_played (hr.mono (by omega)) (by rfl) (fun σ => passAt (takes_of rfl rfl rfl rfl) σ) (pa_cons (pv 0) (pa_cons (pv 1) pa_nil))))
      (pss_one (ps_ret (pe_callXC C_rows_of (hr.mono (by omega)) (by rfl) (fun σ => passAt (takes_of rfl rfl rfl rfl) σ) (pa_cons (pv 0) (pa_cons (pv 1) pa_nil))))))), rfl, ?_⟩
    walk_at "q"
    rcases hh with ⟨b, c, Ds, rfl, hR, hl, q⟩ | ⟨ds, i, hs, hi, go, ng, no⟩
    · refine ⟨G, a, M, u, _, rfl, eG, hA, mn.ok, nok, hu, hd, fun z => absurd z (by cases c <;> exact fun y => nomatch y), fun ds hs => ?_⟩
      obtain rfl := seq_one hs (sqD_seq c (Ds.map (sqd b)))
      refine ⟨fun _ G1 H1 p1 g1 r1 => ?_, fun i hi _ ng => absurd (goes_run (b := b) (i := i + 1) hR (by rw [List.length_map] at hi; omega)) ng⟩
      walk_at "q"
      refine ⟨G1, a, M, u, b, c, Ds, rfl, g1.w, hA.mono g1.g, mn, nok, hu.mono g1.g, by omega, fun D hD => hR.dv D hD, fun G2 H2 p2 g2 r2 => ?_⟩
      exact q G2 H2 p2 (g1.trans0 g2) r2
    · refine ⟨G, a, M, u, _, rfl, eG, hA, mn.ok, nok, hu, hd, fun z => absurd z (by rcases hs with rfl | rfl <;> exact fun y => nomatch y), fun es hs2 => ?_⟩
      obtain rfl := seq_one hs2 hs
      refine ⟨fun g2 => absurd (goes_mono g2 (by omega)) ng, fun j hj go2 ng2 H1 dd e1 hdd => ?_⟩
      obtain rfl := goes_uniq go ng go2 ng2
      exact no H1 dd e1 hdd
end
end Cw

set_option maxHeartbeats 4000000
namespace Cw
open PySem PySem.Spec PyProof.Rows L2
section
variable {P : Program} {w : World} {K : PySem.W.Frag} {mg : Str → Option Value} {base : Heap}
abbrev s__law_history : Stmt := topS 73
abbrev N__law_history : List Str := ["net", "deeds", "rows", "deed", "row", "process"]
theorem sc__law_history : FnScope N__law_history ["net", "deeds"] (defScope s__law_history) := ⟨rfl, rfl, rfl, by decide +kernel, rfl, by decide +kernel, by decide +kernel⟩
def sp_lhist (K : PySem.W.Frag) : Sp := fun vs H Q _ => ∃ (G : Hp) (n : Addr) (M : MN) (u : V) (c : Bool) (Ds : List Deed), vs = [.ref n, u] ∧ Ex G H ∧ NetL K G n M ∧ MNet M ∧ Rp K G u (sqD c (Ds.map Deed.d)) ∧ Ds.length ≤ 1000 ∧ (∀ D ∈ Ds, DV M D) ∧
  ∀ G2 H2 p, Gro none G H G2 H2 → Rp K G2 (.ref p) (histD M Ds) → Q (.ref p) H2
theorem c_lhist {f : Addr} {fd : FuncData} (F : FnP K "_law_history" s__law_history f fd) (hm : mg "_law_history" = some (.ref f)) (B : Blt mg) (C__law_owner : Cal P w K mg base 1 "_law_owner" ["net", "deed"] (sp_downer K)) : Cal P w K mg base 2 "_law_history" ["net", "deeds"] (sp_lhist K) := by
  refine cal_of F hm sc__law_history (fun _ _ _ _ _ _ _ us hl => match us, hl with | [_, _], _ => rfl) (fun vs H Q E h => ?_) (fun cdv A outer s H vs Q E hr h => ?_)
  · obtain ⟨_, _, _, _, _, _, rfl, _⟩ := h
    rfl
  · obtain ⟨G, n, M, u, c, Ds, rfl, eG, hN, mn, hu, hl, hD, q⟩ := h
    have nd := sc__law_history.nd
    have lp := mn.ok.lp
    refine ⟨_, [some _, some _, none, none, none, none], ((pss_cons (ps_setLc (i := 2) (own := [("process", 5)]) rfl nd rfl rfl (sw_true rfl rfl rfl (by decide +kernel)) (pi_seqK (K := K) rfl (pe_dget (hu1 hr) (pv 0) pe_str (fun _ _ => rfl))) (blkOk_by (N := N__law_history) (sc := defScope s__law_history) (by decide +kernel)) (fun _ _ _ _ _ => (pg_name (i := 5) nd rfl (by first | exact Or.inl rfl | exact Or.inr rfl))) (fun _ _ _ _ _ => pts_nil) (fun _ _ _ _ _ => (pe_lst pa_nil)))
      (pss_cons (ps_for PassesOwn.never rfl (pi_seqK (K := K) rfl (pv 1)) (pg_name (i := 3) nd rfl (by first | exact Or.inl rfl | exact Or.inr rfl)) (pss_cons (ps_set (i := 4) nd rfl (Or.inl rfl) (pe_ix (ix_seqK (K := K) rfl) (pv 2) (pe_callC C__law_owner (hr.mono (by omega)) (by rfl) (pa_cons (pv 0) (pa_cons (pv 3) pa_nil))) (fun _ _ => rfl)))
      (pss_one (ps_expr (pe_bmK (K := K) rfl PySem.F.plainAttrs_list PySem.F.slot_list_append PySem.F.type_list_append mt_append (pv 4) (pa_cons (pv 3) pa_nil))))))
      (pss_one (ps_ret (pe_callTy (call_tupK (K := K) rfl) (by rfl) B.tuple_ bo_tuple (pa_cons (pe_lc (own := [("row", 4)]) rfl nd (pi_seqK (K := K) rfl (pv 2)) (blkOk_by (N := N__law_history) (sc := defScope s__law_history) (by decide +kernel)) (fun _ _ _ _ _ => (pg_name (i := 4) nd rfl (by first | exact Or.inl rfl | exact Or.inr rfl))) (fun _ _ _ _ _ => pts_nil) (fun _ _ _ _ _ => (pe_callTy (call_tupK (K := K) rfl) (by rfl) B.tuple_ bo_tuple (pa_cons (pv 4) pa_nil)))) pa_nil))))))), rfl, ?_⟩
    walk_at "q"
    refine q_lcL ?_
    walk_at "q"
    refine q_nlP hN eG (fun vp hvp => ?_)
    refine q_newL hvp eG (by omega) (fun u' H' Cc N hC => ?_) (fun D as G1 H1 s1 hD1 => ?_)
    · walk_at "q"
      refine ⟨rfl, ?_⟩
      walk_at "q"
      rename_i p hp
      exact hC p hp
    walk_at "q"
    refine q_forS c ?_
    walk_at "q"
    refine q_sq_for (G := G1) (hu.mono s1.g) s1.ww (fun i σ' H' => ∃ z3 z4 f G', σ' = [some (.ref n), some u, some (.ref D), z3, z4, none] ∧ Ex G1 G' ∧ Rw G H G' H' M.ps.length as f ∧ ∀ p, p < M.ps.length → Rps K G' (f p) ((rowH M (Ds.take i) p).map Deed.d)) ⟨none, none, fun _ => [], G1, rfl, Ex.refl _, s1, fun p _ => .nil⟩ ?_ ?_ ?_
    · rintro i σ' H' ⟨z3, z4, f, G', rfl, eg, s', _⟩
      exact eg.trans s'.ww
    · rintro i d u' σ' H' hd ⟨z3, z4, f, G', rfl, eg, s', hf⟩ ru
      obtain ⟨D0, hD0, rfl⟩ := at_sqd (b := true) hd
      have dv := hD D0 (List.mem_of_getElem? hD0)
      have ho := own_lt mn dv
      walk_at "q"
      refine ⟨G', n, M, u', D0, rfl, s'.ww, hN.mono (s1.g.trans eg), ru.mono eg, dv, fun H2 e2 => ?_⟩
      have s2 := s'.up e2
      refine q_ixL (.inl (.inl (s2.ww _ _ (eg _ _ hD1)))) (atI_nat (by rw [List.getElem?_map, List.getElem?_range ho] <;> rfl)) ?_
      have h1 := s2.at_ ho
      walk_at "q"
      refine q_append h1 (line_lt (by rw [(hf _ ho).len, List.length_map]; have := rowH_len M (Ds.take i) (ownM M D0); have := List.length_take_le i Ds; have := (List.getElem?_eq_some_iff.mp hD0).1; omega)) ?_
      refine ⟨_, _, _, G', rfl, eg, s2.put ho _, fun p hp => ?_⟩
      rw [List.take_add_one, hD0, Option.toList_some, rowH_snoc]
      by_cases z : p = ownM M D0
      · subst z
        rw [if_pos rfl, if_pos rfl, List.map_append]
        exact (hf _ hp).app (Rps.one (ru.mono eg))
      · rw [if_neg z, if_neg z]
        exact hf p hp
    · rintro σ' H' ⟨z3, z4, f, G', rfl, eg, s', hf⟩
      rw [List.length_map, List.take_length] at hf
      obtain ⟨G2, e2, k2, g2⟩ := s'.know
      have rD := rows_rp (K := K) ((eg.trans e2) _ _ hD1) k2 (fun p hp => (hf p hp).mono e2)
      walk_at "q"
      refine q_lcL ?_
      walk_at "q"
      refine q_fmL (h := fun p => PyData.list ((rowH M Ds p).map Deed.d)) (f := fun p => some (deedsD (rowH M Ds p))) rD g2.w (by rw [List.length_range]; omega) (fun i p u3 G3 H3 hp gr3 ru3 Cc N yes no => ?_) (fun G3 H3 D3 g3 hD3 r3 => ?_)
      · walk_at "q"
        refine ⟨rfl, ?_⟩
        walk_at "q"
        refine q_tupRS ru3 (.inl rfl) gr3.w (fun G4 H4 p4 g4 r4 => ?_)
        exact yes _ _ _ _ rfl g4 r4
      rw [fm_map] at r3
      walk_at "q"
      refine q_tupRS r3 (.inl rfl) g3.w (fun G4 H4 p4 g4 r4 => ?_)
      refine q G4 H4 p4 ((g2.trans0 g3).trans0 g4) ?_
      rw [histD, histM, List.map_map]
      exact r4
end
end Cw

set_option maxHeartbeats 4000000
namespace Cw
open PySem PySem.Spec PyProof.Rows L2
section
variable {P : Program} {w : World} {K : PySem.W.Frag} {mg : Str → Option Value} {base : Heap}
abbrev s_many_events : Stmt := topS 53
abbrev N_many_events : List Str := ["told", "row"]
theorem sc_many_events : FnScope N_many_events ["told"] (defScope s_many_events) := ⟨rfl, rfl, rfl, by decide +kernel, rfl, by decide +kernel, by decide +kernel⟩
theorem c_manyG {f : Addr} {fd : FuncData} (F : FnP K "many_events" s_many_events f fd) (hm : mg "many_events" = some (.ref f)) (B : Blt mg) : Cal P w K mg base 1 "many_events" ["told"] (sp_manyG K) := by
  refine cal_of F hm sc_many_events (fun _ _ _ _ _ _ _ us hl => match us, hl with | [_], _ => rfl) (fun vs H Q E h => ?_) (fun cdv A outer s H vs Q E hr h => ?_)
  · obtain ⟨_, _, _, _, _, rfl, _⟩ := h
    rfl
  · obtain ⟨G, u, e, c, rows, rfl, eG, hu, hs, q⟩ := h
    have nd := sc_many_events.nd
    refine ⟨_, [some _, none], ((pss_one (ps_ret (pe_callB (cr_sumK (K := K) rfl rfl) (by rfl) B.sum_ bo_sum (pa_cons (pe_lc (own := [("row", 1)]) rfl nd (pi_seqK (K := K) rfl (pv 0)) (blkOk_by (N := N_many_events) (sc := defScope s_many_events) (by decide +kernel)) (fun _ _ _ _ _ => (pg_name (i := 1) nd rfl (by first | exact Or.inl rfl | exact Or.inr rfl))) (fun _ _ _ _ _ => pts_nil) (fun _ _ _ _ _ => (pe_callB (call_lenK (K := K) rfl) (by rfl) B.len_ bo_len (pa_cons (pv 1) pa_nil)))) pa_nil))))), rfl, ?_⟩
    walk_at "q"
    refine q_lcB e ?_
    walk_at "q"
    refine q_fmB (h := sqD c) (f := fun r : List PyData => some (nD r.length)) hu eG (by have := hs.1; omega) (fun i r u' G' H' hrow gr ru C N yes no => ?_) (fun G' H' D gr hD rD => ?_)
    · walk_at "q"
      refine ⟨rfl, ?_⟩
      walk_at "q"
      refine q_lenRS ru (sqD_seq c _) gr.w ?_
      exact yes _ _ _ _ rfl (Gro.refl gr.w) (.int _)
    · rw [fm_map] at rD
      walk_at "q"
      refine q_sumR (ns := rows.map List.length) (by rw [List.map_map]; exact rD) gr.w ?_
      exact q _ gr.ex
abbrev s_are_rows : Stmt := topS 52
abbrev N_are_rows : List Str := ["net", "told", "row", "process", "deed"]
theorem sc_are_rows : FnScope N_are_rows ["net", "told"] (defScope s_are_rows) := ⟨rfl, rfl, rfl, by decide +kernel, rfl, by decide +kernel, by decide +kernel⟩
theorem c_arows8 {C CS f : Addr} {fd : FuncData} (F : FnP K "are_rows" s_are_rows f fd) (hm : mg "are_rows" = some (.ref f)) (B : Blt mg) (cs : Cst K mg) (nt : NtC K mg C) (C_is_row : Cal P w K mg base 2 "is_row" ["value", "many"] (sp2 K isRow)) (C_is_sequence : Cal P w K mg base 1 "is_sequence" ["value"] (sp1 K dSeq))
    (C_many_events : Cal P w K mg base 1 "many_events" ["told"] (sp_manyG K)) (C_is_deed : Cal P w K mg base 4 "is_deed" ["net", "deed"] (spNetB K C isDeedD)) (C_owner : CalX P w K mg base 5 "owner" ["net", "deed"] (sp_owner K C CS)) : Cal P w K mg base 6 "are_rows" ["net", "told"] (sp_arows8 K C) := by
  refine cal_of F hm sc_are_rows (fun _ _ _ _ _ _ _ us hl => match us, hl with | [_, _], _ => rfl) (fun vs H Q E h => ?_) (fun cdv A outer s H vs Q E hr h => ?_)
  · obtain ⟨_, _, _, _, rfl, _⟩ := h
    rfl
  · obtain ⟨G, a, M, u, rfl, eG, hA, ok, nok, hh⟩ := h
    have nd := sc_are_rows.nd
    refine ⟨_, [some _, some _, none, none, none], ((pss_one (ps_ret (pe_and (pe_callC C_is_row (hr.mono (by omega)) (by rfl) (pa_cons (pv 1) (pa_cons (pe_callB (call_lenK (K := K) rfl) (by rfl) B.len_ bo_len (pa_cons (pe_fldK (K := K) rfl (pv 0)) pa_nil)) pa_nil))) (pe_and (pe_callB (cr_all rfl) (by rfl) B.all_ bo_all (pa_cons (pe_lc (own := [("row", 2)]) rfl nd (pi_seqK (K := K) rfl (pv 1)) (blkOk_by (N := N_are_rows) (sc := defScope s_are_rows) (by decide +kernel)) (fun _ _ _ _ _ => (pg_name (i := 2) nd rfl (by first | exact Or.inl rfl | exact Or.inr rfl))) (fun _ _ _ _ _ => pts_nil) (fun _ _ _ _ _ => (pe_callC C_is_sequence (hr.mono (by omega)) (by rfl) (pa_cons (pv 2) pa_nil)))) pa_nil)) (pe_and (pe_cmpR op_le (pe_callC C_many_events (hr.mono (by omega)) (by rfl) (pa_cons (pv 1) pa_nil)) (pe_gint (by rfl) cs.MOST_DEEDS) (nomark _)) (pe_one (pe_callB (cr_all rfl) (by rfl) B.all_ bo_all (pa_cons (pe_lc2 (own := [("process", 3), ("row", 2), ("deed", 4)]) (vs1 := [4]) rfl nd (pi_enumK (K := K) rfl (by rfl) B.enumerate_ (pa_cons (pv 1) pa_nil)) (blkOk_by (N := N_are_rows) (sc := defScope s_are_rows) (by decide +kernel)) (by decide) (fun _ _ _ _ _ => (pg_seqK (K := K) (n := 2) rfl rfl (pgs_cons (pg_name (i := 3) nd rfl (by first | exact Or.inl rfl | exact Or.inr rfl)) (pgs_cons (pg_name (i := 2) nd rfl (by first | exact Or.inl rfl | exact Or.inr rfl)) pgs_nil)))) (fun _ _ _ _ _ => pts_nil) (fun _ _ _ _ _ => (pi_seqK (K := K) rfl (pv 2))) (fun _ _ _ _ _ => (pg_name (i := 4) nd rfl (by first | exact Or.inl rfl | exact Or.inr rfl))) (fun _ _ _ _ _ => pts_nil) (fun _ _ _ _ _ => (pe_and (pe_callC C_is_deed (hr.mono (by omega)) (by rfl) (pa_cons (pv 0) (pa_cons (pv 4) pa_nil))) (pe_one (pe_cmpR (op_eqK (K := K) rfl (hu64 hr)) (pe_callX0 C_owner (hr.mono (by omega)) (by rfl) (pa_cons (pv 0) (pa_cons (pv 4) pa_nil))) (pv 3) (nomark _)))))) pa_nil))))))))), rfl, ?_⟩
    rcases hh with ⟨e, c, b, T, hu, hs, q⟩ | ⟨d, hu, hd, q⟩
    · walk_at "q"
      refine ⟨G, u, _, _, rfl, eG, hu, shp_rows hs, fun H1 e1 => ?_⟩
      have er : isRow ((M.N.p.length : Nat) : Int) (rowsD e c b T) = decide (T.length = M.ps.length) := by
        rw [show isRow ((M.N.p.length : Nat) : Int) (rowsD e c b T) = _ from isRow_sq e _ _, List.length_map] <;> rfl
      rw [er]
      walk_at "q"
      refine q_ifd (fun h1 => ?_) (fun h1 => ?_)
      · have w1 := eG.trans e1
        walk_at "q"
        refine q_lcB e ?_
        walk_at "q"
        refine q_fmB (h := fun r : List Deed => sqD c (r.map (sqd b))) (f := fun r : List Deed => some (PyData.bool true)) hu w1 (by have := hs.1; omega) (fun i r u' G' H' hrow gr ru C N yes no => ?_) (fun G' H' D gr hD rD => ?_)
        · walk_at "q"
          refine ⟨rfl, ?_⟩
          walk_at "q"
          refine ⟨G', u', _, rfl, gr.w, ru, shp_row (n := 1) (by decide) (by rw [List.length_map]; have := hs.2 r (List.mem_of_getElem? hrow); omega) (fun d hd => by
            obtain ⟨D, _, rfl⟩ := List.mem_map.mp hd
            exact okD_sqd b D), fun H2 e2 => ?_⟩
          rw [dSeq_sq]
          exact yes _ _ _ _ rfl (Gro.up gr.w e2) (.bl true)
        · rw [fm_map] at rD
          obtain ⟨D', vs, eD, hD', hvs⟩ := rp_lst rD
          cases eD
          obtain rfl := bools_of (bs := T.map fun _ => true) (by rw [List.map_map]; exact hvs)
          walk_at "q"
          refine q_all (gr.w _ _ hD') ?_
          have ea : (T.map fun _ => true).all id = true := List.all_eq_true.mpr fun x hx => by
            obtain ⟨_, _, rfl⟩ := List.mem_map.mp hx
            rfl
          rw [ea]
          have k1 := gr.ex
          walk_at "q"
          refine ⟨G', u, e, c, _, rfl, gr.w, by rw [← rowsD_G]; exact hu.mono gr.g, smT_G hs b, fun H2 e2 => ?_⟩
          rw [tot_G]
          have w2 := gr.w.trans e2
          walk_at "q"
          refine q_ifd (fun h2 => ?_) (fun h2 => ?_)
          · walk_at "q"
            refine q_lc2E (G := G') (e := e) (c := c) (rows := T.map fun r => r.map (sqd b)) (ownF M) (v := u) (by rw [List.map_map]; exact hu.mono gr.g) w2 (by rw [List.length_map]; have := hs.1; omega) (fun r hr => ?_) (fun R h => ?_) (fun _ _ => rfl) (fun _ _ _ => rfl) (fun x y H' R h => ?_) (fun i j r d y u' H' hrow hd ex ru R h => ?_) (fun D G3 H3 g3 hD3 => ?_)
            · obtain ⟨r', hr', rfl⟩ := List.mem_map.mp hr
              rw [List.length_map]
              have := hs.2 r' hr'
              omega
            · walk_at "q"
              exact h
            · walk_at "q"
              exact h
            · rw [List.getElem?_map] at hrow
              cases hT : T[i]? with
              | none => rw [hT] at hrow; cases hrow
              | some r' =>
                rw [hT] at hrow
                cases hrow
                obtain ⟨D0, hD0, rfl⟩ := at_sqd hd
                walk_at "q"
                refine ⟨G', a, M.N, u', _, rfl, ex, hA.mono gr.g, nok, ru, shp_sqd b D0, fun H4 e4 => ?_⟩
                walk_at "q"
                have ef := ownF_sqd M b i D0
                refine q_ifb (fun h4 => ?_) (fun h4 => ?_)
                · walk_at "q"
                  refine ⟨G', a, M.N, u', _, rfl, ex.trans e4, hA.mono gr.g, nok, ru, shp_sqd b D0, fun _ H5 uo e5 ruo => ?_, fun z => absurd z (by rw [h4]; decide)⟩
                  rw [isD_sqd] at h4
                  rw [own_sqd (isD_dv h4)] at ruo
                  obtain rfl := rp_nD ruo
                  walk_at "q"
                  refine q_bt' ?_ (h _ (e4.trans e5))
                  rw [ef, h4, Bool.true_and]
                  by_cases z : ownM M D0 = i
                  · rw [decide_eq_true z, decide_eq_true (by omega)]
                  · rw [decide_eq_false z, decide_eq_false (by omega)]
                · rw [isD_sqd] at h4
                  rw [h4] at ef
                  exact q_bt' (by rw [ef] <;> rfl) (h _ e4)
            · walk_at "q"
              refine q_all (g3.w _ _ hD3) ?_
              rw [List.length_map, bools_own]
              refine q_bt' ?_ (q _ (e1.trans (gr.ex.trans (e2.trans g3.ex))))
              unfold okRows
              rw [decide_eq_true h1, decide_eq_true (by omega)] <;> rfl
          · walk_at "q"
            refine q_bt' ?_ (q _ (e1.trans (gr.ex.trans e2)))
            unfold okRows
            rw [decide_eq_true h1, decide_eq_false (show ¬ tot T ≤ 60 by omega)] <;> rfl
      · refine q_bt' ?_ (q _ e1)
        unfold okRows
        rw [decide_eq_false h1] <;> rfl
    · obtain ⟨sd, odd⟩ := hd
      walk_at "q"
      refine ⟨G, u, _, _, rfl, eG, hu, sd, fun H1 e1 => ?_⟩
      have w1 := eG.trans e1
      rcases odd with h | ⟨b, ds, rfl, hl, hno⟩ | ⟨e, c, rows, rfl, hl, hx, hne⟩
      · rw [show isRow ((M.N.p.length : Nat) : Int) d = false from h]
        walk_at "q"
        exact q _ e1
      · have er : isRow ((M.N.p.length : Nat) : Int) (sqD b ds) = true := by
          rw [show isRow ((M.N.p.length : Nat) : Int) (sqD b ds) = _ from isRow_sq b _ _]
          exact decide_eq_true hl
        rw [er]
        have lp := ok.lp
        walk_at "q"
        refine q_lcB b ?_
        walk_at "q"
        refine q_fmB (h := id) (xs := ds) (f := fun x => some (PyData.bool (dSeq x))) (by rw [List.map_id]; exact hu) w1 (by omega) (fun i x u' G' H' hxi gr ru C N yes no => ?_) (fun G' H' D gr hD rD => ?_)
        · walk_at "q"
          refine ⟨rfl, ?_⟩
          walk_at "q"
          refine ⟨G', u', _, rfl, gr.w, ru, shp_mem (sqD_seq b ds) sd x (List.mem_of_getElem? hxi), fun H2 e2 => ?_⟩
          exact yes _ _ _ _ rfl (Gro.up gr.w e2) (.bl _)
        · rw [fm_map] at rD
          obtain ⟨D', vs, eD, hD', hvs⟩ := rp_lst rD
          cases eD
          obtain rfl := bools_of (bs := ds.map dSeq) (by rw [List.map_map]; exact hvs)
          walk_at "q"
          refine q_all (gr.w _ _ hD') ?_
          rw [List.all_map, show (id ∘ dSeq) = dSeq from rfl, hno]
          walk_at "q"
          exact q _ (e1.trans gr.ex)
      · have er : isRow ((M.N.p.length : Nat) : Int) (rowsG e c rows) = true := by
          rw [show isRow ((M.N.p.length : Nat) : Int) (rowsG e c rows) = _ from isRow_sq e _ _, List.length_map]
          exact decide_eq_true hl
        rw [er]
        have lp := ok.lp
        walk_at "q"
        refine q_lcB e ?_
        walk_at "q"
        refine q_fmB (h := sqD c) (xs := rows) (f := fun _ => some (PyData.bool true)) hu w1 (by omega) (fun i r u' G' H' hri gr ru C N yes no => ?_) (fun G' H' D gr hD rD => ?_)
        · walk_at "q"
          refine ⟨rfl, ?_⟩
          walk_at "q"
          refine ⟨G', u', _, rfl, gr.w, ru, shp_mem (sqD_seq e _) sd _ (List.mem_map.mpr ⟨r, List.mem_of_getElem? hri, rfl⟩), fun H2 e2 => ?_⟩
          rw [dSeq_sq]
          exact yes _ _ _ _ rfl (Gro.up gr.w e2) (.bl true)
        · rw [fm_map] at rD
          obtain ⟨D', vs, eD, hD', hvs⟩ := rp_lst rD
          cases eD
          obtain rfl := bools_of (bs := rows.map fun _ => true) (by rw [List.map_map]; exact hvs)
          walk_at "q"
          refine q_all (gr.w _ _ hD') ?_
          have ea : (rows.map fun _ => true).all id = true := List.all_eq_true.mpr fun x hx => by
            obtain ⟨_, _, rfl⟩ := List.mem_map.mp hx
            rfl
          rw [ea]
          have k1 := gr.ex
          walk_at "q"
          refine ⟨G', u, e, c, rows, rfl, gr.w, hu.mono gr.g, ⟨by omega, fun r hr => by have := (hx r hr).1; omega⟩, fun H2 e2 => ?_⟩
          have w2 := gr.w.trans e2
          walk_at "q"
          refine q_ifd (fun h2 => ?_) (fun h2 => ?_)
          · walk_at "q"
            refine q_lc2E (G := G') (e := e) (c := c) (rows := rows) (ownF M) (v := u) (hu.mono gr.g) w2 (by omega) (fun r hr => by have := (hx r hr).1; omega) (fun R h => ?_) (fun _ _ => rfl) (fun _ _ _ => rfl) (fun x y H' R h => ?_) (fun i j r d y u' H' hrow hd ex ru R h => ?_) (fun D G3 H3 g3 hD3 => ?_)
            · walk_at "q"
              exact h
            · walk_at "q"
              exact h
            · obtain ⟨nd', sh'⟩ := (hx r (List.mem_of_getElem? hrow)).2 d (List.mem_of_getElem? hd)
              walk_at "q"
              refine ⟨G', a, M.N, u', _, rfl, ex, hA.mono gr.g, nok, ru, sh', fun H4 e4 => ?_⟩
              rw [nd']
              walk_at "q"
              exact q_bt' (by unfold ownF; rw [nd'] <;> rfl) (h _ e4)
            · walk_at "q"
              refine q_all (g3.w _ _ hD3) ?_
              rw [bools_no (fun r hr x hxr => ((hx r hr).2 x hxr).1) hne]
              exact q _ (e1.trans (gr.ex.trans (e2.trans g3.ex)))
          · exact q _ (e1.trans (gr.ex.trans e2))
end
end Cw

set_option maxHeartbeats 4000000
namespace Cw
open PySem PySem.Spec PyProof.Rows L2
section
variable {P : Program} {w : World} {K : PySem.W.Frag} {mg : Str → Option Value} {base : Heap}
abbrev s_first_ready : Stmt := topS 55
abbrev N_first_ready : List Str := ["net", "rows", "world", "counts", "process", "row", "at"]
theorem sc_first_ready : FnScope N_first_ready ["net", "rows", "world", "counts"] (defScope s_first_ready) := ⟨rfl, rfl, rfl, by decide +kernel, rfl, by decide +kernel, by decide +kernel⟩
theorem c_fready {C f : Addr} {fd : FuncData} (F : FnP K "first_ready" s_first_ready f fd) (hm : mg "first_ready" = some (.ref f)) (B : Blt mg) (C_can_be_done : Cal P w K mg base 5 "can_be_done" ["net", "world", "deed"] (sp_can K C)) : Cal P w K mg base 6 "first_ready" ["net", "rows", "world", "counts"] (sp_fready K C) := by
  refine cal_of F hm sc_first_ready (fun _ _ _ _ _ _ _ us hl => match us, hl with | [_, _, _, _], _ => rfl) (fun vs H Q E h => ?_) (fun cdv A outer s H vs Q E hr h => ?_)
  · obtain ⟨_, _, _, _, _, _, _, _, _, _, _, _, _, rfl, _⟩ := h
    rfl
  · obtain ⟨G, a, M, u, v, e, c, b, bw, T, W, cs, l, rfl, eG, hA, ok, nok, hu, hs, hv, wok, hl, lc, q⟩ := h
    have nd := sc_first_ready.nd
    refine ⟨_, [some _, some _, some _, some _, none, none, none], ((pss_cons (ps_for PassesOwn.never rfl (pi_enumK (K := K) rfl (by rfl) B.enumerate_ (pa_cons (pv 1) pa_nil)) (pg_seqK (K := K) (n := 2) rfl rfl (pgs_cons (pg_name (i := 4) nd rfl (by first | exact Or.inl rfl | exact Or.inr rfl)) (pgs_cons (pg_name (i := 5) nd rfl (by first | exact Or.inl rfl | exact Or.inr rfl)) pgs_nil))) (pss_cons (ps_set (i := 6) nd rfl (Or.inl rfl) (pe_ix (ix_seqK (K := K) rfl) (pv 3) (pv 4) (fun _ _ => rfl)))
      (pss_one (ps_if (PW.pt (pw_and (pt_cmpR op_lt (pv 6) (pe_callB (call_lenK (K := K) rfl) (by rfl) B.len_ bo_len (pa_cons (pv 5) pa_nil)) (nomark _)) (pw_and1 (pt_val (pe_callC C_can_be_done (hr.mono (by omega)) (by rfl) (pa_cons (pv 0) (pa_cons (pv 2) (pa_cons (pe_ix (ix_seqK (K := K) rfl) (pv 5) (pv 6) (fun _ _ => rfl)) pa_nil)))))))) (pss_one (ps_ret (pv 4))) pss_nil))))
      (pss_one (ps_ret pe_non)))), rfl, ?_⟩
    walk_at "q"
    refine q_forE e ?_
    walk_at "q"
    refine q_en2 hu eG (fun i σ' H' => ∃ z4 z5 z6, σ' = [some (.ref a), some u, some v, some (.ref l), z4, z5, z6] ∧ Ex H H' ∧ ∀ p, p < i → cand M W T cs false p = false) ⟨none, none, none, rfl, Ex.refl _, fun p h => absurd h (by omega)⟩ ?_ ?_ ?_
    · rintro i σ' H' ⟨_, _, _, _, e1, _⟩
      exact eG.trans e1
    · rintro i d u' σ' H' D hd ⟨z4, z5, z6, rfl, e1, no⟩ ru hD
      have hi : i < T.length := by
        have := (List.getElem?_eq_some_iff.mp hd).1
        rwa [List.length_map] at this
      rw [rowsD_at hi] at hd
      cases hd
      have hic : i < cs.length := by omega
      have e2 : Ex H (L2.upd H' D (.tup [.int (i : Nat), u'])) := e1.trans (Ex.new hD)
      have w2 := eG.trans e2
      have hl2 := e2 _ _ hl
      generalize L2.upd H' D (.tup [.int (i : Nat), u']) = H1 at e2 w2 hl2 ⊢
      walk_at "q"
      refine q_ixC hl2 (atI_nat (v := .int ((cs.getD i 0 : Nat) : Int)) (by rw [cntV, List.getElem?_map, List.getElem?_eq_getElem hic, List.getD_eq_getElem?_getD, List.getElem?_eq_getElem hic] <;> rfl)) ?_
      walk_at "q"
      refine q_lenRS ru (sqD_seq c _) w2 ?_
      rw [List.length_map]
      walk_at "q"
      refine q_ifd (fun h1 => ?_) (fun h1 => ?_)
      · have h1' : cs.getD i 0 < (T.getD i []).length := by omega
        have hD0 : getT T cs i = some ((T.getD i [])[cs.getD i 0]) := List.getElem?_eq_getElem h1'
        walk_at "q"
        refine q_ixRS ru (sqD_seq c _) w2 (atI_nat (by rw [List.getElem?_map, List.getElem?_eq_getElem h1'] <;> rfl)) (fun ud hud => ?_)
        walk_at "q"
        refine ⟨G, a, M, v, bw, W, 900, ud, _, rfl, w2, hA, ok, nok, hv, wok, by decide, hud, shp_sqd b _, fun H3 e3 => ?_⟩
        rw [can_sqd]
        have ec : cand M W T cs false i = canD M W ((T.getD i [])[cs.getD i 0]).d := by
          unfold cand
          rw [hD0]
          simp
        walk_at "q"
        refine q_ifb (fun h2 => ?_) (fun h2 => ?_)
        · walk_at "q"
          have en : next M W T cs false = some i := by
            unfold next
            rw [List.find?_range_eq_some]
            exact ⟨by rw [ec]; exact h2, by simpa using hi, fun j hj => by rw [no j hj] <;> rfl⟩
          have := q H3 (e2.trans e3)
          rw [en] at this
          exact this
        · walk_at "q"
          refine ⟨_, _, _, rfl, e2.trans e3, fun p hp => ?_⟩
          by_cases z : p < i
          · exact no p z
          · obtain rfl : p = i := by omega
            rw [ec]
            exact h2
      · walk_at "q"
        refine ⟨_, _, _, rfl, e2, fun p hp => ?_⟩
        by_cases z : p < i
        · exact no p z
        · obtain rfl : p = i := by omega
          unfold cand
          rw [show getT T cs p = none from List.getElem?_eq_none (by omega)]
    · rintro σ' H' ⟨z4, z5, z6, rfl, e1, no⟩
      walk_at "q"
      have en : next M W T cs false = none := by
        unfold next
        rw [List.find?_eq_none]
        intro p hp
        rw [no p (by rw [List.length_map]; exact List.mem_range.mp hp)]
        decide
      have := q H' e1
      rw [en] at this
      exact this
end
end Cw

set_option maxHeartbeats 4000000
namespace Cw
open PySem PySem.Spec PyProof.Rows L2
section
variable {P : Program} {w : World} {K : PySem.W.Frag} {mg : Str → Option Value} {base : Heap}
abbrev s_least_way : Stmt := topS 54
abbrev N_least_way : List Str := ["net", "rows", "world", "behind", "counts", "deeds", "process", "deed"]
theorem sc_least_way : FnScope N_least_way ["net", "rows", "world", "behind"] (defScope s_least_way) := ⟨rfl, rfl, rfl, by decide +kernel, rfl, by decide +kernel, by decide +kernel⟩
theorem c_lway {C CS f : Addr} {fd : FuncData} (F : FnP K "least_way" s_least_way f fd) (hm : mg "least_way" = some (.ref f)) (B : Blt mg) (C_first_ready : Cal P w K mg base 6 "first_ready" ["net", "rows", "world", "counts"] (sp_fready K C)) (C_done : CalX P w K mg base 6 "done" ["net", "world", "deed"] (sp_done K C CS)) : Cal P w K mg base 7 "least_way" ["net", "rows", "world", "behind"] (sp_lway K C) := by
  refine cal_of F hm sc_least_way (fun _ _ _ _ _ _ _ us hl => match us, hl with | [_, _, _, _], _ => rfl) (fun vs H Q E h => ?_) (fun cdv A outer s H vs Q E hr h => ?_)
  · obtain ⟨_, _, _, _, _, _, _, _, _, _, _, _, _, _, _, rfl, _⟩ := h
    rfl
  · obtain ⟨G, a, M, u, v, x, e, c, b, bw, bx, T, W, cs, BB, rfl, eG, hA, ok, nok, hu, hs, hv, wok, hB, hx, lc, hle, hown, q⟩ := h
    have nd := sc_least_way.nd
    refine ⟨_, [some _, some _, some _, some _, none, none, none, none], ((pss_cons (ps_set (i := 4) nd rfl (Or.inl rfl) (pe_callTy (call_listK (K := K) rfl) (by rfl) B.list_ bo_list (pa_cons (pv 3) pa_nil)))
      (pss_cons (ps_set (i := 5) nd rfl (Or.inl rfl) (pe_lst pa_nil))
      (pss_cons (ps_set (i := 6) nd rfl (Or.inl rfl) (pe_callC C_first_ready (hr.mono (by omega)) (by rfl) (pa_cons (pv 0) (pa_cons (pv 1) (pa_cons (pv 2) (pa_cons (pv 4) pa_nil))))))
      (pss_cons (ps_while PassesOwn.never (pt_cmpR op_isnotA (pv 6) pe_non (nomark _)) (pss_cons (ps_set (i := 7) nd rfl (Or.inl rfl) (pe_ix (ix_seqK (K := K) rfl) (pe_ix (ix_seqK (K := K) rfl) (pv 1) (pv 6) (fun _ _ => rfl)) (pe_ix (ix_seqK (K := K) rfl) (pv 4) (pv 6) (fun _ _ => rfl)) (fun _ _ => rfl)))
      (pss_cons (ps_set (i := 2) nd rfl (Or.inl rfl) (pe_callX0 C_done (hr.mono (by omega)) (by rfl) (pa_cons (pv 0) (pa_cons (pv 2) (pa_cons (pv 7) pa_nil)))))
      (pss_cons (ps_augS (pv 4) (pv 6) (pg_ixK (K := K) rfl) pe_int ip_add set_list)
      (pss_cons (ps_expr (pe_bmK (K := K) rfl PySem.F.plainAttrs_list PySem.F.slot_list_append PySem.F.type_list_append mt_append (pv 5) (pa_cons (pe_callTy (call_tupK (K := K) rfl) (by rfl) B.tuple_ bo_tuple (pa_cons (pv 7) pa_nil)) pa_nil)))
      (pss_one (ps_set (i := 6) nd rfl (Or.inl rfl) (pe_callC C_first_ready (hr.mono (by omega)) (by rfl) (pa_cons (pv 0) (pa_cons (pv 1) (pa_cons (pv 2) (pa_cons (pv 4) pa_nil))))))))))))
      (pss_one (ps_ret (pe_tup (pa_cons (pe_callTy (call_tupK (K := K) rfl) (by rfl) B.tuple_ bo_tuple (pa_cons (pv 5) pa_nil)) (pa_cons (pv 2) pa_nil)))))))))), rfl, ?_⟩
    have inv := fun k => gw_inv (M := M) (W0 := W) (T := T) (cs0 := cs) (o := false) (.inr hown) lc hle k
    walk_at "q"
    refine q_lstRS hx (sqD_seq bx _) eG (fun vs l hvs hl => ?_)
    obtain rfl := nats_of hvs
    have gl := Gro.new (o := .lst (cs.map fun n : Nat => V.int (n : Int))) eG hl
    walk_at "q"
    rename_i dl hdl
    -- the counts, the deeds: two cells beside what is known
    have hl1 : (L2.upd (L2.upd H l (.lst (cntV cs))) dl (.lst [])) l = some (.lst (cntV cs)) := upd_old upd_same hdl
    have ne : l ≠ dl := fun z => by
      rw [z] at hl1
      rw [upd_same] at hl1
      rw [← z, upd_same] at hdl
      cases hdl
    have e0 : Ex H (L2.upd (L2.upd H l (.lst (cntV cs))) dl (.lst [])) := (Ex.new hl).trans (Ex.new hdl)
    have hdl0 : H dl = none := (Ex.new hl).back hdl
    refine ⟨G, a, M, u, v, e, c, b, bw, T, W, cs, l, rfl, eG.trans e0, hA, ok, nok, hu, hs, hv, ⟨wok.ls, wok.ln, wok.lp, fun r hr => Nat.le_trans (wok.b r hr) (by omega)⟩, hl1, lc, fun H1 e1 => ?_⟩
    walk_at "q"
    have g0 : Two l dl G H G H1 (cntV cs) [] := Two.start eG hl hdl0 ne (e0.trans e1) (e1 _ _ hl1) (e1 _ _ upd_same)
    refine q_while (fun m σ' H' => ∃ k z7 v' bw' G' ds, m = tot T + 1 - k ∧ σ' = [some (.ref a), some u, some v', some x, some (.ref l), some (.ref dl), some (optI (next M (endW M W (gw M W T cs false k).1) T (gw M W T cs false k).2 false)), z7] ∧ k ≤ tot T ∧ (gw M W T cs false k).1.length = k ∧ Two l dl G H G' H' (cntV (gw M W T cs false k).2) ds ∧ Rps K G' ds ((gw M W T cs false k).1.map Deed.d) ∧ Rp K G' v' ((endW M W (gw M W T cs false k).1).d bw')) (tot T + 1) ⟨0, none, v, bw, G, [], rfl, rfl, Nat.zero_le _, rfl, g0, .nil, hv⟩ ?_
    rintro m σ' H' ⟨k, z7, v', bw', G', ds, rfl, rfl, hk, hlen, t, hds, hv'⟩
    have g := inv k
    have bd := g.bound
    have wok' : WdOk M (endW M W (gw M W T cs false k).1) (BB + k) := endW_ok _ wok (by omega)
    cases en : next M (endW M W (gw M W T cs false k).1) T (gw M W T cs false k).2 false with
    | none =>
      walk_at "q"
      obtain ⟨G2, g2, eg2, k1, k2⟩ := t.know
      refine q_tupL (t.hb) (fun p hp => ?_)
      have g3 := g2.trans0 (Gro.new (o := .tup ds) g2.w hp)
      walk_at "q"
      rename_i p2 hp2
      have g4 := g3.trans0 (Gro.new (o := .tup [.ref p, v']) g3.w hp2)
      have es := gw_stop en (tot T) hk
      refine q _ _ p2 bw' g4 ?_
      rw [es]
      have e2 := Ex.new (o := .tup ds) (g2.w.back hp)
      have e3 := Ex.new (o := .tup [.ref p, v']) (g3.w.back hp2)
      exact .tup (.inl (.inl upd_same)) (.cons (.tup (.inl (.inl (e3 _ _ upd_same))) (hds.mono (eg2.trans (e2.trans e3)))) (.cons (hv'.mono (eg2.trans (e2.trans e3))) .nil))
    | some p =>
      obtain ⟨hp, D, hD, hc, _⟩ := next_some en
      have hD' : (T.getD p [])[(gw M W T cs false k).2.getD p 0]? = some D := hD
      have eown := own_at (.inr hown) en hD
      have gn := gw_next en hD
      have g1 := inv (k + 1)
      have hlen1 : (gw M W T cs false (k + 1)).1.length = k + 1 := by rw [gn, List.length_append, hlen] <;> rfl
      have bd1 := g1.bound.1
      rw [hlen1] at bd1
      have hpc : p < (gw M W T cs false k).2.length := by rw [g.len]; exact hp
      have hat : atI (cntV (gw M W T cs false k).2) (p : Int) = some (.int (((gw M W T cs false k).2.getD p 0 : Nat) : Int)) := atI_nat (by rw [cntV, List.getElem?_map, List.getElem?_eq_getElem hpc, List.getD_eq_getElem?_getD, List.getElem?_eq_getElem hpc] <;> rfl)
      have hu' := hu.mono t.gr.g
      walk_at "q"
      refine ⟨fun σ'' H'' => ∃ z7 v' bw' G' ds, σ'' = [some (.ref a), some u, some v', some x, some (.ref l), some (.ref dl), some (optI (next M (endW M W (gw M W T cs false (k + 1)).1) T (gw M W T cs false (k + 1)).2 false)), z7] ∧ Two l dl G H G' H'' (cntV (gw M W T cs false (k + 1)).2) ds ∧ Rps K G' ds ((gw M W T cs false (k + 1)).1.map Deed.d) ∧ Rp K G' v' ((endW M W (gw M W T cs false (k + 1)).1).d bw'), fun σ'' H'' ⟨z7, v', bw', G', ds, h1, h2, h3, h4⟩ => ⟨tot T + 1 - (k + 1), by omega, k + 1, z7, v', bw', G', ds, rfl, h1, by omega, hlen1, h2, h3, h4⟩, ?_⟩
      walk_at "q"
      refine q_ixRS hu' (sqD_seq e _) t.ww (atI_nat (rowsD_at hp)) (fun ur hur => ?_)
      walk_at "q"
      refine q_ixC t.ha hat ?_
      refine q_ixRS hur (sqD_seq c _) t.ww (atI_nat (by rw [List.getElem?_map, hD'] <;> rfl)) (fun ud hud => ?_)
      walk_at "q"
      refine ⟨G', a, M, v', bw', _, BB + k, ud, _, rfl, t.ww, hA.mono t.gr.g, ok, nok, hv', wok', by omega, hud, shp_sqd b D, fun _ D' G2 H2 p2 hs2 g2 r2 => ?_, fun z => absurd z (by rw [can_sqd, hc]; decide)⟩
      obtain rfl : D' = D := by
        have := dOf_eq hs2
        rw [dOf_sqd] at this
        exact this.symm
      have t2 := t.gro g2
      walk_at "q"
      refine q_augS ?_
      walk_at "q"
      refine q_ixl (.inl (.inl t2.ha)) hat ?_
      walk_at "q"
      refine q_ipI ?_
      refine q_set t2.ha (ixOf (by rw [cntV, List.length_map]; exact hpc)) ?_
      have t3 := t2.putA (ws := cntV (gw M W T cs false (k + 1)).2)
      have ec : (cntV (gw M W T cs false k).2).set p (.int ((((gw M W T cs false k).2.getD p 0 : Nat) : Int) + 1)) = cntV (gw M W T cs false (k + 1)).2 := by
        rw [gn]
        show _ = cntV _
        unfold cntV
        rw [List.map_set]
        congr 1
      rw [ec]
      have hb3 := t3.hb
      have hud3 := hud.mono g2.g
      walk_at "q"
      refine q_tupRS hud3 (sqd_seq b D') t3.ww (fun G4 H4 p4 g4 r4 => ?_)
      have t4 := t3.gro g4
      have hb4 := t4.hb
      walk_at "q"
      refine q_append hb4 (line_lt (by rw [hds.len, List.length_map, hlen]; have := tot_le hs; omega)) ?_
      have t5 := t4.putB (ws := ds ++ [.ref p4])
      have rds : Rps K G4 (ds ++ [.ref p4]) ((gw M W T cs false (k + 1)).1.map Deed.d) := by
        rw [gn]
        show Rps K G4 _ (((gw M W T cs false k).1 ++ [D']).map Deed.d)
        rw [List.map_append]
        exact ((hds.mono g2.g).mono g4.g).app (Rps.one r4)
      have ew : endW M W (gw M W T cs false (k + 1)).1 = stepM M (endW M W (gw M W T cs false k).1) D' := by
        rw [gn]
        exact endW_app _ [D']
      have wok5 : WdOk M (endW M W (gw M W T cs false (k + 1)).1) 900 := endW_ok _ wok (by omega)
      have rv4 : Rp K G4 (.ref p2) ((endW M W (gw M W T cs false (k + 1)).1).d true) := by
        rw [ew]
        exact r2.mono g4.g
      walk_at "q"
      refine ⟨G4, a, M, u, .ref p2, e, c, b, true, T, _, _, l, rfl, t5.ww, hA.mono t5.gr.g, ok, nok, hu.mono t5.gr.g, hs, rv4, wok5, t5.ha, by rw [g1.len], fun H6 e6 => ?_⟩
      exact ⟨_, _, true, G4, _, rfl, t5.gro (Gro.up t5.ww e6), rds, rv4⟩
end
end Cw

set_option maxHeartbeats 4000000
namespace Cw
open PySem PySem.Spec PyProof.Rows L2
section
variable {P : Program} {w : World} {K : PySem.W.Frag} {mg : Str → Option Value} {base : Heap}
abbrev s_run_of : Stmt := topS 51
abbrev N_run_of : List Str := ["net", "told", "run", "_"]
theorem sc_run_of : FnScope N_run_of ["net", "told"] (defScope s_run_of) := ⟨rfl, rfl, rfl, by decide +kernel, rfl, by decide +kernel, by decide +kernel⟩
theorem c_runof8 {C f : Addr} {fd : FuncData} (F : FnP K "run_of" s_run_of f fd) (hm : mg "run_of" = some (.ref f)) (B : Blt mg) (C_start : Cal P w K mg base 1 "start" ["net"] (sp_start K C)) (C_are_rows : Cal P w K mg base 6 "are_rows" ["net", "told"] (sp_arows8 K C)) (C_least_way : Cal P w K mg base 7 "least_way" ["net", "rows", "world", "behind"] (sp_lway K C)) (C_many_events : Cal P w K mg base 1 "many_events" ["told"] (sp_manyG K)) : Cal P w K mg base 8 "run_of" ["net", "told"] (sp_runof8 K C) := by
  refine cal_of F hm sc_run_of (fun _ _ _ _ _ _ _ us hl => match us, hl with | [_, _], _ => rfl) (fun vs H Q E h => ?_) (fun cdv A outer s H vs Q E hr h => ?_)
  · obtain ⟨_, _, _, _, rfl, _⟩ := h
    rfl
  · obtain ⟨G, a, M, u, rfl, eG, hA, ok, nok, hh⟩ := h
    have nd := sc_run_of.nd
    refine ⟨_, [some _, some _, none, none], ((pss_cons (ps_if (pt_not (pt_val (pe_callC C_are_rows (hr.mono (by omega)) (by rfl) (pa_cons (pv 0) (pa_cons (pv 1) pa_nil))))) (pss_one (ps_ret pe_non)) pss_nil)
      (pss_cons (ps_asg (pe_callC C_least_way (hr.mono (by omega)) (by rfl) (pa_cons (pv 0) (pa_cons (pv 1) (pa_cons (pe_callC C_start (hr.mono (by omega)) (by rfl) (pa_cons (pv 0) pa_nil)) (pa_cons (pe_op (op_mulB (K := K) rfl) (pe_tup (pa_cons pe_int pa_nil)) (pe_callB (call_lenK (K := K) rfl) (by rfl) B.len_ bo_len (pa_cons (pv 1) pa_nil))) pa_nil))))) (pg_seqK (K := K) (n := 2) rfl rfl (pgs_cons (pg_name (i := 2) nd rfl (by first | exact Or.inl rfl | exact Or.inr rfl)) (pgs_cons (pg_name (i := 3) nd rfl (by first | exact Or.inl rfl | exact Or.inr rfl)) pgs_nil))))
      (pss_one (ps_ret (pe_ifExp (pt_cmpR (op_eqK (K := K) rfl (hu64 hr)) (pe_callB (call_lenK (K := K) rfl) (by rfl) B.len_ bo_len (pa_cons (pv 2) pa_nil)) (pe_callC C_many_events (hr.mono (by omega)) (by rfl) (pa_cons (pv 1) pa_nil)) (nomark _)) (pv 2) pe_non)))))), rfl, ?_⟩
    rcases hh with ⟨e, c, b, T, hu, hs, qn, qs⟩ | ⟨d, hu, hd, q⟩
    · walk_at "q"
      refine ⟨G, a, M, u, rfl, eG, hA, ok, nok, .inl ⟨e, c, b, T, hu, hs, fun H1 e1 => ?_⟩⟩
      walk_at "q"
      refine q_ifb (fun h => ?_) (fun h => ?_)
      · walk_at "q"
        exact qn (by unfold lrun; rw [if_neg (fun z => by rw [z.1] at h; cases h)]) _ e1
      · have hr1 : okRows M T = true := by simpa using h
        have h2 := bA hr1
        have hl : T.length = M.ps.length := of_decide_eq_true h2.1
        have ht : tot T ≤ 60 := of_decide_eq_true (bA h2.2).1
        have hown := fun p D hD => (allOwn_iff.mp (bA h2.2).2 p D hD).2
        walk_at "q"
        refine ⟨G, a, M.N, rfl, eG.trans e1, hA, by have := nok.lp; omega, by have := nok.lc; omega, fun G1 H2 p1 g1 r1 => ?_⟩
        rw [start_d] at r1
        walk_at "q"
        rename_i pz hpz
        refine q_lenRS (hu.mono g1.g) (sqD_seq e _) (g1.w.trans (Ex.new hpz)) ?_
        rw [List.length_map]
        walk_at "q"
        have g2 := Gro.new (o := .tup [.int 0]) g1.w hpz
        refine q_rep1 (m := T.length) (d := .int 0) (.tup (.inl (.inl upd_same)) (.cons (.int 0) .nil)) g2.w (by have := hs.1; omega) (fun G3 H3 p3 g3 r3 => ?_)
        walk_at "q"
        have e13 := g2.g.trans g3.g
        have er : List.replicate T.length (PyData.int 0) = (List.replicate T.length 0).map nD := by rw [List.map_replicate] <;> rfl
        rw [er] at r3
        have g03 : Gro none G H G3 H3 := (((Gro.up eG e1).trans0 g1).trans0 g2).trans0 g3
        refine ⟨G3, a, M, u, .ref p1, .ref p3, e, c, b, true, true, T, startM M, List.replicate T.length 0, 0, rfl, g3.w, hA.mono g03.g, ok, nok, hu.mono g03.g, hs, r1.mono e13, start_ok M, by omega, r3, by rw [List.length_replicate], fun p hp => ?_, hown, fun G4 H4 p4 bz g4 r4 => ?_⟩
        · rw [List.getD_eq_getElem?_getD]
          cases z : (List.replicate T.length 0)[p]? with
          | none => exact Nat.zero_le _
          | some k => rw [List.eq_of_mem_replicate (List.mem_of_getElem? z)]; exact Nat.zero_le _
        · have g04 := g03.trans0 g4
          refine q_gSeq r4 (.inr rfl) g4.w rfl (fun us hus => ?_)
          obtain ⟨vr, _, rfl, rr, hus⟩ := rps_cons hus
          obtain ⟨vw, _, rfl, rw', hus⟩ := rps_cons hus
          obtain rfl := rps_nil hus
          walk_at "q"
          refine q_lenRT rr g4.w ?_
          rw [List.length_map]
          walk_at "q"
          refine ⟨G4, u, e, c, _, rfl, g4.w, by rw [← rowsD_G]; exact hu.mono g04.g, smT_G hs b, fun H5 e5 => ?_⟩
          rw [tot_G]
          walk_at "q"
          refine q_ifd (fun h5 => ?_) (fun h5 => ?_)
          · walk_at "q"
            obtain ⟨pr, vs, rfl, _, _⟩ := rp_tup rr
            exact qs _ (by unfold lrun; rw [if_pos ⟨hr1, by omega⟩]) G4 H5 pr (g04.trans0 (Gro.up g4.w e5)) rr
          · walk_at "q"
            exact qn (by unfold lrun; rw [if_neg (fun z => h5 (by have := z.2; omega))]) _ (g04.ex.trans e5)
    · walk_at "q"
      refine ⟨G, a, M, u, rfl, eG, hA, ok, nok, .inr ⟨d, hu, hd, fun H1 e1 => ?_⟩⟩
      walk_at "q"
      exact q _ e1
abbrev s_is_history : Stmt := topS 50
abbrev N_is_history : List Str := ["net", "told"]
theorem sc_is_history : FnScope N_is_history ["net", "told"] (defScope s_is_history) := ⟨rfl, rfl, rfl, by decide +kernel, rfl, by decide +kernel, by decide +kernel⟩
theorem c_ishist {C f : Addr} {fd : FuncData} (F : FnP K "is_history" s_is_history f fd) (hm : mg "is_history" = some (.ref f)) (B : Blt mg) (C_run_of : Cal P w K mg base 8 "run_of" ["net", "told"] (sp_runof8 K C)) : Cal P w K mg base 9 "is_history" ["net", "told"] (sp_ishist K C) := by
  refine cal_of F hm sc_is_history (fun _ _ _ _ _ _ _ us hl => match us, hl with | [_, _], _ => rfl) (fun vs H Q E h => ?_) (fun cdv A outer s H vs Q E hr h => ?_)
  · obtain ⟨_, _, _, _, _, rfl, _⟩ := h
    rfl
  · obtain ⟨G, a, M, u, yes, rfl, eG, hA, ok, nok, hh, q⟩ := h
    have nd := sc_is_history.nd
    refine ⟨_, [some _, some _], ((pss_one (ps_ret (pe_cmpR op_isnotA (pe_callC C_run_of (hr.mono (by omega)) (by rfl) (pa_cons (pv 0) (pa_cons (pv 1) pa_nil))) pe_non (nomark _))))), rfl, ?_⟩
    walk_at "q"
    rcases hh with ⟨e, c, b, T, hu, hs, hy⟩ | ⟨d, hu, hd, hy⟩
    · refine ⟨G, a, M, u, rfl, eG, hA, ok, nok, .inl ⟨e, c, b, T, hu, hs, fun hn H1 e1 => ?_, fun Es hE G2 H2 p g2 r2 => ?_⟩⟩
      · walk_at "q"
        exact q_bt' (by rw [← hy, hn] <;> rfl) (q _ e1)
      · walk_at "q"
        exact q_bt' (by rw [← hy, hE] <;> rfl) (q _ g2.ex)
    · refine ⟨G, a, M, u, rfl, eG, hA, ok, nok, .inr ⟨d, hu, hd, fun H1 e1 => ?_⟩⟩
      walk_at "q"
      exact q_bt' (by rw [hy] <;> rfl) (q _ e1)
end
end Cw

set_option maxHeartbeats 4000000
namespace Cw
open PySem PySem.Spec PyProof.Rows L2
section
variable {P : Program} {w : World} {K : PySem.W.Frag} {mg : Str → Option Value} {base : Heap}
abbrev s__law_walked : Stmt := topS 74
abbrev N__law_walked : List Str := ["net", "told", "row", "at", "world", "deeds", "turn", "can", "free", "deed", "p"]
theorem sc__law_walked : FnScope N__law_walked ["net", "told"] (defScope s__law_walked) := ⟨rfl, rfl, rfl, by decide +kernel, rfl, by decide +kernel, by decide +kernel⟩
theorem find_head {p : Nat → Bool} {n x : Nat} (h : (List.range n).find? p = some x) : ((List.range n).filter p)[0]? = some x := by
  rw [← List.head?_eq_getElem?, List.head?_filter]
  exact h
/-- the places, twice sifted -/
def freeF (M : MN) (T : List (List Deed)) (cs : List Nat) (p : Nat) : Option PyData := match getT T cs p with
  | some D => if ownM M D = p then some (nD p) else none
  | none => none
theorem free_two (M : MN) (W : Wd) (T : List (List Deed)) (cs : List Nat) : ∀ l : List Nat, (l.filter (cand M W T cs false)).filterMap (freeF M T cs) = (l.filter (cand M W T cs true)).map nD
  | [] => rfl
  | p :: l => by
    have ih := free_two M W T cs l
    rw [List.filter_cons, List.filter_cons]
    cases e : getT T cs p with
    | none =>
      have c1 : cand M W T cs false p = false := by unfold cand; rw [e]
      have c2 : cand M W T cs true p = false := by unfold cand; rw [e]
      rw [c1, c2]
      exact ih
    | some D =>
      have c1 : cand M W T cs false p = canD M W D.d := by unfold cand; rw [e]; simp
      have c2 : cand M W T cs true p = (canD M W D.d && decide (ownM M D = p)) := by unfold cand; rw [e]; simp
      rw [c1, c2]
      cases hc : canD M W D.d with
      | false => exact ih
      | true =>
        have ef : freeF M T cs p = if ownM M D = p then some (nD p) else none := by unfold freeF; rw [e]
        rw [if_pos rfl, List.filterMap_cons, ef, Bool.true_and]
        by_cases z : ownM M D = p
        · rw [if_pos z, decide_eq_true z, if_pos rfl, List.map_cons, ih]
        · rw [if_neg z, decide_eq_false z, if_neg (by decide)]
          exact ih
theorem c_walked {f : Addr} {fd : FuncData} (F : FnP K "_law_walked" s__law_walked f fd) (hm : mg "_law_walked" = some (.ref f)) (B : Blt mg) (C__law_start : Cal P w K mg base 1 "_law_start" ["net"] (sp_dstart K)) (C__law_possible : Cal P w K mg base 2 "_law_possible" ["net", "world"] (sp_dposs K)) (C__law_owner : Cal P w K mg base 1 "_law_owner" ["net", "deed"] (sp_downer K)) (C__law_done : Cal P w K mg base 1 "_law_done" ["net", "world", "deed"] (sp_ddone K)) : Cal P w K mg base 3 "_law_walked" ["net", "told"] (sp_walked K) := by
  refine cal_of F hm sc__law_walked (fun _ _ _ _ _ _ _ us hl => match us, hl with | [_, _], _ => rfl) (fun vs H Q E h => ?_) (fun cdv A outer s H vs Q E hr h => ?_)
  · obtain ⟨_, _, _, _, _, rfl, _⟩ := h
    rfl
  · obtain ⟨G, n, M, u, T, rfl, eG, hN, ok, hu0, hs, h8, qn, qs⟩ := h
    have nd := sc__law_walked.nd
    have hu : Rp K G u (.tuple (T.map fun r => sqD true (r.map (sqd true)))) := hu0
    have hT1 := hs.1
    refine ⟨_, [some _, some _, none, none, none, none, none, none, none, none, none], ((pss_cons (ps_if (PW.pt (pw_or (pt_not (pt_val (pe_callB (call_isiQ (K := K) rfl) (by rfl) B.isinstance_ bo_isinstance (pa_cons (pv 1) (pa_cons (pe_bty (by rfl) B.tuple_ bo_tuple) pa_nil))))) (pw_or1 (pt_cmpR (op_neK (K := K) rfl (hu64 hr)) (pe_callB (call_lenK (K := K) rfl) (by rfl) B.len_ bo_len (pa_cons (pv 1) pa_nil)) (pe_callB (call_lenK (K := K) rfl) (by rfl) B.len_ bo_len (pa_cons (pe_dget (hu1 hr) (pv 0) pe_str (fun _ _ => rfl)) pa_nil)) (nomark _))))) (pss_one (ps_ret pe_non)) pss_nil)
      (pss_cons (ps_for PassesOwn.never rfl (pi_seqK (K := K) rfl (pv 1)) (pg_name (i := 2) nd rfl (by first | exact Or.inl rfl | exact Or.inr rfl)) (pss_one (ps_if (PW.pt (pw_or (pt_not (pt_val (pe_callB (call_isiQ (K := K) rfl) (by rfl) B.isinstance_ bo_isinstance (pa_cons (pv 2) (pa_cons (pe_bty (by rfl) B.tuple_ bo_tuple) pa_nil))))) (pw_or1 (pt_cmpR op_gt (pe_callB (call_lenK (K := K) rfl) (by rfl) B.len_ bo_len (pa_cons (pe_lc (own := [("deed", 9)]) rfl nd (pi_seqK (K := K) rfl (pv 2)) (blkOk_by (N := N__law_walked) (sc := defScope s__law_walked) (by decide +kernel)) (fun _ _ _ _ _ => (pg_name (i := 9) nd rfl (by first | exact Or.inl rfl | exact Or.inr rfl))) (fun _ _ _ _ _ => (pts_one (pt_not (pt_val (pe_callB (call_isiQ (K := K) rfl) (by rfl) B.isinstance_ bo_isinstance (pa_cons (pv 9) (pa_cons (pe_bty (by rfl) B.tuple_ bo_tuple) pa_nil))))))) (fun _ _ _ _ _ => (pv 9))) pa_nil)) pe_int (nomark _))))) (pss_one (ps_ret pe_non)) pss_nil)))
      (pss_cons (ps_set (i := 3) nd rfl (Or.inr rfl) (pe_lc (own := [("row", 2)]) rfl nd (pi_seqK (K := K) rfl (pv 1)) (blkOk_by (N := N__law_walked) (sc := defScope s__law_walked) (by decide +kernel)) (fun _ _ _ _ _ => (pg_name (i := 2) nd rfl (by first | exact Or.inl rfl | exact Or.inr rfl))) (fun _ _ _ _ _ => pts_nil) (fun _ _ _ _ _ => pe_int)))
      (pss_cons (ps_set (i := 4) nd rfl (Or.inl rfl) (pe_callC C__law_start (hr.mono (by omega)) (by rfl) (pa_cons (pv 0) pa_nil)))
      (pss_cons (ps_set (i := 5) nd rfl (Or.inl rfl) (pe_lst pa_nil))
      (pss_cons (ps_for PassesOwn.never rfl (pi_range1 (by rfl) B.range_ (pa_cons (pe_callB (cr_sumK (K := K) rfl rfl) (by rfl) B.sum_ bo_sum (pa_cons (pe_lc (own := [("row", 2)]) rfl nd (pi_seqK (K := K) rfl (pv 1)) (blkOk_by (N := N__law_walked) (sc := defScope s__law_walked) (by decide +kernel)) (fun _ _ _ _ _ => (pg_name (i := 2) nd rfl (by first | exact Or.inl rfl | exact Or.inr rfl))) (fun _ _ _ _ _ => pts_nil) (fun _ _ _ _ _ => (pe_callB (call_lenK (K := K) rfl) (by rfl) B.len_ bo_len (pa_cons (pv 2) pa_nil)))) pa_nil)) pa_nil)) (pg_name (i := 6) nd rfl (by first | exact Or.inl rfl | exact Or.inr rfl)) (pss_cons (ps_set (i := 7) nd rfl (Or.inr rfl) (pe_callC C__law_possible (hr.mono (by omega)) (by rfl) (pa_cons (pv 0) (pa_cons (pv 4) pa_nil))))
      (pss_cons (ps_setLc (i := 8) (own := [("p", 10)]) rfl nd rfl rfl (sw_true rfl rfl rfl (by decide +kernel)) (pi_range1 (by rfl) B.range_ (pa_cons (pe_callB (call_lenK (K := K) rfl) (by rfl) B.len_ bo_len (pa_cons (pv 1) pa_nil)) pa_nil)) (blkOk_by (N := N__law_walked) (sc := defScope s__law_walked) (by decide +kernel)) (fun _ _ _ _ _ => (pg_name (i := 10) nd rfl (by first | exact Or.inl rfl | exact Or.inr rfl))) (fun _ _ _ _ _ => (pts_one (PW.pt (pw_and (pt_cmpR op_lt (pe_ix (ix_seqK (K := K) rfl) (pv 3) (pv 10) (fun _ _ => rfl)) (pe_callB (call_lenK (K := K) rfl) (by rfl) B.len_ bo_len (pa_cons (pe_ix (ix_seqK (K := K) rfl) (pv 1) (pv 10) (fun _ _ => rfl)) pa_nil)) (nomark _)) (pw_and1 (pt_cmpR (op_inB (K := K) rfl (hu65 hr)) (pe_ix (ix_seqK (K := K) rfl) (pe_ix (ix_seqK (K := K) rfl) (pv 1) (pv 10) (fun _ _ => rfl)) (pe_ix (ix_seqK (K := K) rfl) (pv 3) (pv 10) (fun _ _ => rfl)) (fun _ _ => rfl)) (pv 7) (by with_unfolding_all rfl))))))) (fun _ _ _ _ _ => (pv 10)))
      (pss_cons (ps_setLc (i := 8) (own := [("p", 10)]) rfl nd rfl rfl (sw_true rfl rfl rfl (by decide +kernel)) (pi_seqK (K := K) rfl (pv 8)) (blkOk_by (N := N__law_walked) (sc := defScope s__law_walked) (by decide +kernel)) (fun _ _ _ _ _ => (pg_name (i := 10) nd rfl (by first | exact Or.inl rfl | exact Or.inr rfl))) (fun _ _ _ _ _ => (pts_one (pt_cmpR (op_eqK (K := K) rfl (hu64 hr)) (pe_callC C__law_owner (hr.mono (by omega)) (by rfl) (pa_cons (pv 0) (pa_cons (pe_ix (ix_seqK (K := K) rfl) (pe_ix (ix_seqK (K := K) rfl) (pv 1) (pv 10) (fun _ _ => rfl)) (pe_ix (ix_seqK (K := K) rfl) (pv 3) (pv 10) (fun _ _ => rfl)) (fun _ _ => rfl)) pa_nil))) (pv 10) (nomark _)))) (fun _ _ _ _ _ => (pv 10)))
      (pss_cons (ps_if (pt_cmpR (op_eqK (K := K) rfl (hu64 hr)) (pe_callB (call_lenK (K := K) rfl) (by rfl) B.len_ bo_len (pa_cons (pv 8) pa_nil)) pe_int (nomark _)) (pss_one (ps_ret pe_non)) pss_nil)
      (pss_cons (ps_set (i := 9) nd rfl (Or.inl rfl) (pe_ix (ix_seqK (K := K) rfl) (pe_ix (ix_seqK (K := K) rfl) (pv 1) (pe_ix (ix_seqK (K := K) rfl) (pv 8) pe_int (fun _ _ => rfl)) (fun _ _ => rfl)) (pe_ix (ix_seqK (K := K) rfl) (pv 3) (pe_ix (ix_seqK (K := K) rfl) (pv 8) pe_int (fun _ _ => rfl)) (fun _ _ => rfl)) (fun _ _ => rfl)))
      (pss_cons (ps_asg (pe_op (op_addK (K := K) rfl) (pe_ix (ix_seqK (K := K) rfl) (pv 3) (pe_ix (ix_seqK (K := K) rfl) (pv 8) pe_int (fun _ _ => rfl)) (fun _ _ => rfl)) pe_int) (pg_sub (pv 3) (pe_ix (ix_seqK (K := K) rfl) (pv 8) pe_int (fun _ _ => rfl)) set_list))
      (pss_cons (ps_set (i := 4) nd rfl (Or.inl rfl) (pe_callC C__law_done (hr.mono (by omega)) (by rfl) (pa_cons (pv 0) (pa_cons (pv 4) (pa_cons (pv 9) pa_nil)))))
      (pss_one (ps_expr (pe_bmK (K := K) rfl PySem.F.plainAttrs_list PySem.F.slot_list_append PySem.F.type_list_append mt_append (pv 5) (pa_cons (pv 9) pa_nil))))))))))))
      (pss_one (ps_ret (pv 5)))))))))), rfl, ?_⟩
    walk_at "q"
    refine q_nlP hN eG (fun vp hvp => ?_)
    walk_at "q"
    rw [List.length_map]
    by_cases hl : ¬ T.length = M.ps.length
    · walk_at "q"
      exact qn (by unfold lwalk; rw [if_neg (fun z => hl z.1)]) _ (Ex.refl _)
    have hl : T.length = M.ps.length := Decidable.not_not.mp hl
    walk_at "q"
    refine q_forS true ?_
    walk_at "q"
    refine q_sq_for (b := true) hu eG (fun i σ' H' => ∃ z2, σ' = [some (.ref n), some u, z2, none, none, none, none, none, none, none, none] ∧ Ex H H') ⟨none, rfl, Ex.refl _⟩ ?_ ?_ ?_
    · rintro i σ' H' ⟨_, _, e1⟩
      exact eG.trans e1
    · rintro i d u' σ' H' hd ⟨z2, rfl, e1⟩ ru
      rw [List.getElem?_map] at hd
      cases hT : T[i]? with
      | none => rw [hT] at hd; cases hd
      | some r =>
        rw [hT] at hd
        cases hd
        have w1 := eG.trans e1
        have hrl := hs.2 r (List.mem_of_getElem? hT)
        walk_at "q"
        refine q_lcB true ?_
        walk_at "q"
        refine q_fmB (b := true) (xs := r) (h := sqd true) (f := fun _ => none) ru w1 (by omega) (fun j D u2 G2 H2 _ g2 ru2 C N yes no => ?_) (fun G2 H2 D2 g2 hD2 r2 => ?_)
        · walk_at "q"
          refine ⟨rfl, ?_⟩
          walk_at "q"
          refine q_isiTup ru2 g2.w ?_
          walk_at "q"
          exact no _ _ rfl (Gro.refl g2.w)
        · have e2 : r.filterMap (fun _ : Deed => (none : Option PyData)) = [] := by rw [List.filterMap_eq_nil_iff]; intros; rfl
          rw [e2] at r2
          walk_at "q"
          refine q_lenRL r2 g2.w ?_
          walk_at "q"
          exact ⟨_, rfl, e1.trans g2.ex⟩
    rintro σ1 H1 ⟨z2, rfl, e1⟩
    have w1 := eG.trans e1
    walk_at "q"
    refine q_lcB true ?_
    walk_at "q"
    refine q_fmCell (b := true) (h := fun r : List Deed => sqD true (r.map (sqd true))) (f := fun _ => some (nD 0)) hu w1 (by omega) (fun i r u2 G2 H2 _ g2 ru2 C N yes no => ?_) (fun D G2 H2 acc ac hacc => ?_)
    · walk_at "q"
      refine ⟨rfl, ?_⟩
      walk_at "q"
      exact yes _ _ _ _ rfl (Gro.refl g2.w) (.int _)
    rw [fm_map, show (T.map fun _ => nD 0) = (zer T).map nD by rw [zer, List.map_replicate, ← map_const] ] at hacc
    obtain rfl := nats_of hacc
    have hat0 := ac.hl
    walk_at "q"
    refine ⟨G2, n, M, rfl, ac.w, hN.mono ac.gr.g, ok, fun G3 H3 pw g3 rw3 => ?_⟩
    have ac3 := ac.gro g3
    walk_at "q"
    rename_i dl hdl
    have a4 := ac3.two (ys := []) hdl
    generalize L2.upd H3 dl (.lst []) = H4 at a4 ⊢
    have hu4 := hu.mono a4.gr.g
    refine q_lcB true ?_
    walk_at "q"
    refine q_fmB (b := true) (h := fun r : List Deed => sqD true (r.map (sqd true))) (f := fun r : List Deed => some (nD r.length)) hu4 a4.ww (by omega) (fun i r u' G' H' hrow gr ru C N yes no => ?_) (fun G5 H5 D5 g5 hD5 r5 => ?_)
    · walk_at "q"
      refine ⟨rfl, ?_⟩
      walk_at "q"
      refine q_lenRS ru (sqD_seq true _) gr.w ?_
      rw [List.length_map]
      exact yes _ _ _ _ rfl (Gro.refl gr.w) (.int _)
    rw [fm_map] at r5
    have a5 := a4.gro g5
    walk_at "q"
    refine q_sumR (ns := T.map List.length) (by rw [List.map_map]; exact r5) g5.w ?_
    refine q_rng1 (tot T) (by omega) (fun i σ' H' => ∃ z2 z6 z7 z8 z9 v' G' ds, σ' = [some (.ref n), some u, z2, some (.ref D), some v', some (.ref dl), z6, z7, z8, z9, none] ∧ (gw M (startM M) T (zer T) true i).1.length = i ∧ Two D dl G H1 G' H' (cntV (gw M (startM M) T (zer T) true i).2) ds ∧ Rps K G' ds ((gw M (startM M) T (zer T) true i).1.map Deed.d) ∧ Rp K G' v' (endW M (startM M) (gw M (startM M) T (zer T) true i).1).lw)
      ⟨_, none, none, none, none, _, G5, [], rfl, rfl, a5, .nil, rw3.mono g5.g⟩ ?_ ?_
    · clear a5 r5 g5 a4 hu4 ac3 rw3 g3 hat0 ac hdl hD5
      rintro i σ' H' hi ⟨z2, z6, z7, z8, z9, v', G', ds, rfl, hlen, t, hds, hv'⟩
      have inv := zer_inv M T i
      have wok : WdOk M (endW M (startM M) (gw M (startM M) T (zer T) true i).1) i := endW_ok _ (start_ok M) (by omega)
      have hcl := inv.len
      have stop := @gw_stop M (startM M) T (zer T) true i
      have goes := @gw_next M (startM M) T (zer T) true i
      have ownat := fun p D => @own_at M (endW M (startM M) (gw M (startM M) T (zer T) true i).1) T (gw M (startM M) T (zer T) true i).2 true (.inl rfl) p D
      have ewn : ∀ D, endW M (startM M) ((gw M (startM M) T (zer T) true i).1 ++ [D]) = stepM M (endW M (startM M) (gw M (startM M) T (zer T) true i).1) D := fun D => endW_app _ [D]
      generalize eW : endW M (startM M) (gw M (startM M) T (zer T) true i).1 = W at wok hv' stop goes ownat ewn
      generalize ecs : (gw M (startM M) T (zer T) true i).2 = cs at t hcl stop goes ownat
      have hN' := hN.mono t.gr.g
      walk_at "q"
      refine ⟨G', n, M, v', W, i, rfl, t.ww, hN', ok, hv', wok, by omega, fun G6 H6 pc g6 r6 => ?_⟩
      have t6 := t.gro g6
      have hu6 := hu.mono t6.gr.g
      walk_at "q"
      refine q_lenRT hu6 t6.ww ?_
      rw [List.length_map]
      walk_at "q"
      refine q_lcRF T.length (by omega) t6.ww (cand M W T cs false) (fun _ => rfl) (fun _ => rfl) (fun p hp G7 H7 g7 C hC => ?_) (fun D7 G7 H7 g7 gD7 hD7 hl7 => ?_)
      · have t7 := t6.gro g7
        have hu7 := hu6.mono g7.g
        have hC2 := hC G7 H7 (Gro.refl g7.w)
        walk_at "q"
        refine q_ixC t7.ha (cntV_at (by omega)) ?_
        walk_at "q"
        refine q_ixRT hu7 t7.ww (atI_nat (rowsD_at hp)) (fun ur hur => ?_)
        walk_at "q"
        refine q_lenRT hur t7.ww ?_
        rw [List.length_map]
        walk_at "q"
        refine q_ifd (fun h1 => ?_) (fun h1 => ?_)
        · have h1' : cs.getD p 0 < (T.getD p []).length := by omega
          have hD0 : getT T cs p = some ((T.getD p [])[cs.getD p 0]) := List.getElem?_eq_getElem h1'
          have ec : cand M W T cs false p = canD M W ((T.getD p [])[cs.getD p 0]).d := by
            unfold cand
            rw [hD0]
            simp
          rw [ec] at hC2
          walk_at "q"
          refine q_ixRT hu7 t7.ww (atI_nat (rowsD_at hp)) (fun ur hur => ?_)
          walk_at "q"
          refine q_ixC t7.ha (cntV_at (by omega)) ?_
          refine q_ixRT hur t7.ww (atI_nat (by rw [List.getElem?_map, List.getElem?_eq_getElem h1'] <;> rfl)) (fun ud hud => ?_)
          walk_at "q"
          refine q_inL hud (r6.mono g7.g) t7.ww (shp_sqd true _) (shp_poss ok wok (by omega)) ?_
          rw [show sqd true ((T.getD p [])[cs.getD p 0]) = ((T.getD p [])[cs.getD p 0]).d from rfl, poss_any]
          walk_at "q"
          exact hC2
        · have ec : cand M W T cs false p = false := by
            unfold cand
            rw [show getT T cs p = none from List.getElem?_eq_none (by omega)]
          rw [ec] at hC2
          exact hC2
      · have g8 := Acc.know (l := D7) ⟨g7, gD7, hl7, hD7⟩
        have t8 := t6.gro g8
        have hu8 := hu6.mono g8.g
        have hN8 := hN'.mono (g6.g.trans g8.g)
        have r8 : Rp K (L2.upd G7 D7 (.lst (((List.range T.length).filter (cand M W T cs false)).map fun i => V.int (i : Nat)))) (.ref D7) (.list (((List.range T.length).filter (cand M W T cs false)).map nD)) := .lst upd_same (rps_nats _)
        generalize L2.upd G7 D7 (.lst (((List.range T.length).filter (cand M W T cs false)).map fun i => V.int (i : Nat))) = G8 at g8 t8 hu8 hN8 r8
        clear hl7 gD7 g7
        walk_at "q"
        refine q_lcL ?_
        walk_at "q"
        refine q_fmL (h := nD) (f := freeF M T cs) r8 t8.ww (by have := List.length_filter_le (cand M W T cs false) (List.range T.length); rw [List.length_range] at this; omega) (fun j p u2 G9 H9 hx g9 ru2 C N yes no => ?_) (fun G9 H9 D9 g9 hD9 r9 => ?_)
        · obtain rfl := rp_nD ru2
          obtain ⟨hm, hcd⟩ := List.mem_filter.mp (List.mem_of_getElem? hx)
          have hp := List.mem_range.mp hm
          have t9 := t8.gro g9
          have hu9 := hu8.mono g9.g
          obtain ⟨D0, hD0, hcan⟩ : ∃ D0, getT T cs p = some D0 ∧ canD M W D0.d = true := by
            unfold cand at hcd
            cases e : getT T cs p with
            | none => rw [e] at hcd; cases hcd
            | some D0 => rw [e] at hcd; exact ⟨D0, rfl, by simpa using hcd⟩
          have hD0' : (T.getD p [])[cs.getD p 0]? = some D0 := hD0
          have ef : freeF M T cs p = if ownM M D0 = p then some (nD p) else none := by unfold freeF; rw [hD0]
          rw [ef] at yes no
          walk_at "q"
          refine ⟨rfl, ?_⟩
          walk_at "q"
          refine q_ixRT hu9 t9.ww (atI_nat (rowsD_at hp)) (fun ur hur => ?_)
          walk_at "q"
          refine q_ixC t9.ha (cntV_at (by omega)) ?_
          refine q_ixRT hur t9.ww (atI_nat (by rw [List.getElem?_map, hD0'] <;> rfl)) (fun ud hud => ?_)
          walk_at "q"
          refine ⟨G9, n, M, ud, D0, rfl, t9.ww, hN8.mono g9.g, hud, poss_dv (can_mem.mp hcan), fun H10 e10 => ?_⟩
          walk_at "q"
          refine q_ifd (fun h1 => ?_) (fun h1 => ?_)
          · walk_at "q"
            exact yes _ G9 H10 _ (if_pos (by omega)) (Gro.up g9.w e10) (.int _)
          · exact no G9 H10 (if_neg (by omega)) (Gro.up g9.w e10)
        · rw [free_two] at r9
          have t9 := t8.gro g9
          have hu9 := hu8.mono g9.g
          cases en : next M W T cs true with
          | none =>
            have e0 : (List.range T.length).filter (cand M W T cs true) = [] := by
              rw [List.filter_eq_nil_iff]
              exact List.find?_eq_none.mp en
            rw [e0] at r9
            walk_at "q"
            refine q_lenRL r9 g9.w ?_
            walk_at "q"
            refine qn ?_ _ (e1.trans t9.gr.ex)
            unfold lwalk
            rw [if_neg]
            rintro ⟨_, h2⟩
            rw [stop en (tot T) (by omega), hlen] at h2
            omega
          | some p =>
            obtain ⟨hp, D0, hD0, hcan, _⟩ := next_some en
            have hD0' : (T.getD p [])[cs.getD p 0]? = some D0 := hD0
            have h0 := find_head en
            have hfl : 0 < ((List.range T.length).filter (cand M W T cs true)).length := (List.getElem?_eq_some_iff.mp h0).1
            have hf0 : atI (((List.range T.length).filter (cand M W T cs true)).map nD) 0 = some (nD p) := atI_nat (j := 0) (by rw [List.getElem?_map, h0] <;> rfl)
            have gn := goes en hD0
            walk_at "q"
            refine q_lenRL r9 g9.w ?_
            rw [List.length_map]
            walk_at "q"
            refine q_ixRL r9 g9.w hf0 (fun uf huf => ?_)
            obtain rfl := rp_nD huf
            refine q_ixRT hu9 t9.ww (atI_nat (rowsD_at hp)) (fun ur hur => ?_)
            walk_at "q"
            refine q_ixRL r9 g9.w hf0 (fun uf huf => ?_)
            obtain rfl := rp_nD huf
            refine q_ixC t9.ha (cntV_at (by omega)) ?_
            refine q_ixRT hur t9.ww (atI_nat (by rw [List.getElem?_map, hD0'] <;> rfl)) (fun ud hud => ?_)
            walk_at "q"
            refine q_ixRL r9 g9.w hf0 (fun uf huf => ?_)
            obtain rfl := rp_nD huf
            refine q_ixC t9.ha (cntV_at (by omega)) ?_
            walk_at "q"
            refine q_ixRL r9 g9.w hf0 (fun uf huf => ?_)
            obtain rfl := rp_nD huf
            refine q_set t9.ha (ixOf (by rw [cntV, List.length_map]; omega)) ?_
            have ta := t9.putA (ws := cntV (gw M (startM M) T (zer T) true (i + 1)).2)
            have ec : (cntV cs).set p (.int (((cs.getD p 0 : Nat) : Int) + 1)) = cntV (gw M (startM M) T (zer T) true (i + 1)).2 := by
              rw [gn]
              show _ = cntV _
              unfold cntV
              rw [List.map_set]
              congr 1
            rw [ec]
            have hv9 := hv'.mono (g6.g.trans (g8.g.trans g9.g))
            walk_at "q"
            refine ⟨G9, n, M, v', ud, W, i, D0, rfl, ta.ww, hN8.mono g9.g, ok, hv9, wok, by omega, hud, poss_dv (can_mem.mp hcan), fun Gb Hb pb gb rb => ?_⟩
            have tb := ta.gro gb
            have hbb := tb.hb
            walk_at "q"
            refine q_append hbb (line_lt (by rw [hds.len, List.length_map, hlen]; omega)) ?_
            refine ⟨_, _, _, _, _, _, Gb, ds ++ [ud], rfl, ?_, tb.putB, ?_, ?_⟩
            · rw [gn, List.length_append, hlen] <;> rfl
            · rw [gn]
              show Rps K Gb _ (((gw M (startM M) T (zer T) true i).1 ++ [D0]).map Deed.d)
              rw [List.map_append]
              exact (hds.mono ((g6.g.trans (g8.g.trans g9.g)).trans gb.g)).app (Rps.one (hud.mono gb.g))
            · rw [gn]
              show Rp K Gb _ (endW M (startM M) ((gw M (startM M) T (zer T) true i).1 ++ [D0])).lw
              rw [ewn]
              exact rb
    · rintro σ' H' ⟨z2, z6, z7, z8, z9, v', G', ds, rfl, hlen, t, hds, hv'⟩
      obtain ⟨G6, g6, e6, k1, k2⟩ := t.know
      walk_at "q"
      exact qs _ (by unfold lwalk; rw [if_pos ⟨hl, hlen⟩]) G6 H' dl ((Gro.up eG e1).trans0 g6) (.lst k2 (hds.mono e6))
end
end Cw

set_option maxHeartbeats 4000000
namespace Cw
open PySem PySem.Spec PyProof.Rows L2
section
variable {P : Program} {w : World} {K : PySem.W.Frag} {mg : Str → Option Value} {base : Heap}
abbrev s__law_asked : Stmt := topS 78
abbrev N__law_asked : List Str := ["made", "deeds", "e"]
theorem sc__law_asked : FnScope N__law_asked ["made", "deeds"] (defScope s__law_asked) := ⟨rfl, rfl, rfl, by decide +kernel, rfl, by decide +kernel, by decide +kernel⟩
theorem c_asked8 {C CS f : Addr} {fd : FuncData} (F : FnP K "_law_asked" s__law_asked f fd) (hm : mg "_law_asked" = some (.ref f)) (B : Blt mg) (T_BadStep : Xn K mg "BadStep" "at" CS) (ex : PySem.W.exmOne K (.ref CS) (.ref CS) = some true) (C_history : CalX P w K mg base 9 "history" ["net", "deeds"] (sp_hist K C CS)) :
    Cal P w K mg base 10 "_law_asked" ["made", "deeds"] (sp_asked8 K C) := by
  have m_BadStep := T_BadStep.1
  refine cal_of F hm sc__law_asked (fun _ _ _ _ _ _ _ us hl => match us, hl with | [_, _], _ => rfl) (fun vs H Q E h => ?_) (fun cdv A outer s H vs Q E hr h => ?_)
  · obtain ⟨_, _, _, _, _, rfl, _⟩ := h
    rfl
  · obtain ⟨G, a, M, u, d, rfl, eG, hA, mn, nok, hu, hd, hh⟩ := h
    have nd := sc__law_asked.nd
    refine ⟨_, [some _, some _, none], ((pss_one (ps_tryK (K := K) rfl rfl rfl takes0 (fun W pn xe tk po => (pss_one (ps_ret (pe_tup (pa_cons pe_str (pa_cons (pe_callXC C_history (hr.mono (by omega)) (by rfl) (fun σ => passAt tk σ) (pa_cons (pv 0) (pa_cons (pv 1) pa_nil))) pa_nil))))))
      (HdsA.as_ (i := 2) ⟨by rfl, by decide, Or.inl m_BadStep⟩ nd rfl (by rfl) (fun a oe cls d pn hz hf => (pss_one (ps_ret (pe_tup (pa_cons pe_str (pa_cons (pe_xf T_BadStep.xf.1 T_BadStep.xf.2 hz hf (pv 2)) pa_nil))))))
      HdsA.nil)))), rfl, ?_⟩
    walk_at "q"
    rcases hh with ⟨Ds, ⟨b, c, rfl, hR, hl⟩, q⟩ | ⟨i, ⟨ds, hs, hi, go, ng⟩, q⟩
    · refine ⟨G, a, M, u, _, rfl, eG, hA, mn, nok, hu, hd, .inl ⟨b, c, Ds, rfl, hR, hl, fun G2 H2 p g2 r2 => ?_⟩⟩
      walk_at "q"
      rename_i p2 hp2
      refine q _ _ p2 (g2.trans0 (Gro.new (o := .tup [.str "told", .ref p]) g2.w hp2)) ?_
      exact .tup (.inl (.inl upd_same)) (.cons (.str _) (.cons (r2.mono (Ex.new (g2.w.back hp2))) .nil))
    · refine ⟨G, a, M, u, _, rfl, eG, hA, mn, nok, hu, hd, .inr ⟨ds, i, hs, hi, go, ng, fun H1 dd e1 hdd => ?_⟩⟩
      refine q_wY ex (fun e he => ?_)
      walk_at "q"
      rename_i p hp
      have e2 := e1.trans (Ex.new (o := .xd [("at", .int (i : Int))]) hdd)
      exact q _ _ p ((Gro.up eG e2).trans0 (Gro.new (eG.trans e2) hp)) (.tup (.inl (.inl upd_same)) (.cons (.str _) (.cons (.int _) .nil)))
abbrev s__law_is : Stmt := topS 79
abbrev N__law_is : List Str := ["made", "told", "due", "whether"]
theorem sc__law_is : FnScope N__law_is ["made", "told", "due"] (defScope s__law_is) := ⟨rfl, rfl, rfl, by decide +kernel, rfl, by decide +kernel, by decide +kernel⟩
theorem c_is8 {C f : Addr} {fd : FuncData} (F : FnP K "_law_is" s__law_is f fd) (hm : mg "_law_is" = some (.ref f)) (B : Blt mg) (C_is_history : Cal P w K mg base 9 "is_history" ["net", "told"] (sp_ishist K C)) : Cal P w K mg base 10 "_law_is" ["made", "told", "due"] (sp_is8 K C) := by
  refine cal_of F hm sc__law_is (fun _ _ _ _ _ _ _ us hl => match us, hl with | [_, _, _], _ => rfl) (fun vs H Q E h => ?_) (fun cdv A outer s H vs Q E hr h => ?_)
  · obtain ⟨_, _, _, _, _, rfl, _⟩ := h
    rfl
  · obtain ⟨G, a, M, u, yes, rfl, eG, hA, ok, nok, hh, q⟩ := h
    have nd := sc__law_is.nd
    refine ⟨_, [some _, some _, some _, none], ((pss_cons (ps_set (i := 3) nd rfl (Or.inl rfl) (pe_callC C_is_history (hr.mono (by omega)) (by rfl) (pa_cons (pv 0) (pa_cons (pv 1) pa_nil))))
      (pss_one (ps_ret (pe_and (pe_callB (call_isiQ (K := K) rfl) (by rfl) B.isinstance_ bo_isinstance (pa_cons (pv 3) (pa_cons (pe_bty (by rfl) B.bool_ bo_bool) pa_nil))) (pe_one (pe_cmpR (op_eqK (K := K) rfl (hu64 hr)) (pv 3) (pv 2) (nomark _)))))))), rfl, ?_⟩
    walk_at "q"
    refine ⟨G, a, M, u, yes, rfl, eG, hA, ok, nok, hh, fun H1 e1 => ?_⟩
    walk_at "q"
    exact q_bt' (by simp) (q _ e1)
end
end Cw

set_option maxHeartbeats 4000000
namespace Cw
open PySem PySem.Spec PyProof.Rows L2
section
variable {P : Program} {w : World} {K : PySem.W.Frag} {mg : Str → Option Value} {base : Heap}
abbrev s__law_other_deed : Stmt := topS 75
abbrev N__law_other_deed : List Str := ["pool", "net", "deed", "r", "k", "others"]
theorem sc__law_other_deed : FnScope N__law_other_deed ["pool", "net", "deed"] (defScope s__law_other_deed) := ⟨rfl, rfl, rfl, by decide +kernel, rfl, by decide +kernel, by decide +kernel⟩
theorem c_odeed {f : Addr} {fd : FuncData} (F : FnP K "_law_other_deed" s__law_other_deed f fd) (hm : mg "_law_other_deed" = some (.ref f)) (B : Blt mg) (C__law_take : Cal P w K mg base 2 "_law_take" ["pool", "many"] (sp_take K)) : Cal P w K mg base 3 "_law_other_deed" ["pool", "net", "deed"] (sp_odeed K) := by
  refine cal_of F hm sc__law_other_deed (fun _ _ _ _ _ _ _ us hl => match us, hl with | [_, _, _], _ => rfl) (fun vs H Q E h => ?_) (fun cdv A outer s H vs Q E hr h => ?_)
  · obtain ⟨_, _, _, _, _, _, _, rfl, _⟩ := h
    rfl
  · obtain ⟨G, b, n, kvs, M, u, D, rfl, eG, gb, hb, hB, hN, ok, hu, q⟩ := h
    have nd := sc__law_other_deed.nd
    have s0 := Bx.start eG gb hb hB
    have lr := ok.lr
    have lc := ok.lc
    refine ⟨_, [some _, some _, some _, none, none, none], ((pss_cons (ps_set (i := 3) nd rfl (Or.inl rfl) (pe_callC C__law_take (hr.mono (by omega)) (by rfl) (pa_cons (pv 0) (pa_cons (pe_op (op_addK (K := K) rfl) (pe_callB (call_lenK (K := K) rfl) (by rfl) B.len_ bo_len (pa_cons (pe_dget (hu1 hr) (pv 1) pe_str (fun _ _ => rfl)) pa_nil)) pe_int) pa_nil))))
      (pss_cons (ps_set (i := 4) nd rfl (Or.inl rfl) (pe_callC C__law_take (hr.mono (by omega)) (by rfl) (pa_cons (pv 0) (pa_cons pe_int pa_nil))))
      (pss_cons (ps_set (i := 5) nd rfl (Or.inl rfl) (pe_lst (pa_cons (pe_tup (pa_cons pe_str (pa_cons (pv 3) pa_nil))) (pa_cons (pe_tup (pa_cons pe_str (pa_cons (pv 3) (pa_cons (pv 4) pa_nil)))) (pa_cons (pe_tup (pa_cons pe_str (pa_cons (pe_callC C__law_take (hr.mono (by omega)) (by rfl) (pa_cons (pv 0) (pa_cons (pe_op (op_addK (K := K) rfl) (pe_callB (call_lenK (K := K) rfl) (by rfl) B.len_ bo_len (pa_cons (pe_dget (hu1 hr) (pv 1) pe_str (fun _ _ => rfl)) pa_nil)) pe_int) pa_nil))) (pa_cons (pv 4) pa_nil)))) pa_nil)))))
      (pss_cut (ps_if (pt_cmpR (op_eqK (K := K) rfl (hu64 hr)) (pe_callB (call_lenK (K := K) rfl) (by rfl) B.len_ bo_len (pa_cons (pv 2) pa_nil)) pe_int (nomark _)) (pss_one (ps_set (i := 5) nd rfl (Or.inl rfl) (pe_op (op_addK (K := K) rfl) (pv 5) (pe_lst (pa_cons (pe_op (op_addK (K := K) rfl) (pe_slice (sl_anyK (K := K) rfl) (pv 2) po_none (po_some pe_int)) (pe_tup (pa_cons (pe_op (op_addK (K := K) rfl) (pe_ix (ix_seqK (K := K) rfl) (pv 2) pe_int (fun _ _ => rfl)) pe_int) pa_nil))) (pa_cons (pe_op (op_addK (K := K) rfl) (pe_slice (sl_anyK (K := K) rfl) (pv 2) po_none (po_some pe_int)) (pe_tup (pa_cons (pe_callB (call_max2 rfl) (by rfl) B.max_ bo_max (pa_cons pe_int (pa_cons (pe_op op_sub (pe_ix (ix_seqK (K := K) rfl) (pv 2) pe_int (fun _ _ => rfl)) pe_int) pa_nil))) pa_nil))) pa_nil)))))) pss_nil)
      (pss_one (ps_ret (pe_ix (ix_seqK (K := K) rfl) (pv 5) (pe_callC C__law_take (hr.mono (by omega)) (by rfl) (pa_cons (pv 0) (pa_cons (pe_callB (call_lenK (K := K) rfl) (by rfl) B.len_ bo_len (pa_cons (pv 5) pa_nil)) pa_nil))) (fun _ _ => rfl))))))))), rfl, ?_⟩
    walk_at "q"
    refine q_nlR hN eG (fun vr hvr => ?_)
    walk_at "q"
    rw [List.length_map]
    refine s0.take (by omega) (by omega) (fun r H1 hr1 s1 => ?_)
    walk_at "q"
    refine s1.take (by decide) (by decide) (fun k H2 hk s2 => ?_)
    walk_at "q"
    rename_i p1 hp1 p2 hp2
    obtain ⟨G3, e3, k3, s3⟩ := s2.made (o := .tup [.str "act", .int (r : Int)]) hp1
    obtain ⟨G4, e4, k4, s4⟩ := s3.made (o := .tup [.str "take", .int (r : Int), .int (k : Int)]) hp2
    have w4 := s4.ww
    refine q_nlC (hN.mono (e3.trans e4)) w4 (fun vc hvc => ?_)
    walk_at "q"
    rw [List.length_map]
    refine s4.take (by omega) (by omega) (fun c H5 hc s5 => ?_)
    walk_at "q"
    rename_i p6 hp6 p7 hp7
    obtain ⟨G6, e6, k6, s6⟩ := s5.made (o := .tup [.str "lose", .int (c : Int), .int (k : Int)]) hp6
    obtain ⟨G7, e7, k7, s7⟩ := s6.made (o := .lst [.ref p1, .ref p2, .ref p6]) hp7
    have r7 : Rp K G7 (.ref p7) (.list ([Deed.act r, .take r k, .lose c k].map Deed.d)) := .lst k7 (.cons (.tup (.inl (.inl ((e4.trans (e6.trans e7)) _ _ k3))) (.cons (.str _) (.cons (.int _) .nil)))
      (.cons (.tup (.inl (.inl ((e6.trans e7) _ _ k4))) (.cons (.str _) (.cons (.int _) (.cons (.int _) .nil)))) (.cons (.tup (.inl (.inl (e7 _ _ k6))) (.cons (.str _) (.cons (.int _) (.cons (.int _) .nil)))) .nil)))
    have hu7 := hu.mono (e3.trans (e4.trans (e6.trans e7)))
    have eg7 := e3.trans (e4.trans (e6.trans e7))
    generalize L2.upd (L2.upd H5 p6 (.tup [.str "lose", .int (c : Int), .int (k : Int)])) p7 (.lst [.ref p1, .ref p2, .ref p6]) = H7 at s7 ⊢
    clear s6 s5 s4 s3 s2 s1 s0 k7 k6 k4 k3 hp7 hp6 hp2 hp1 hu hvc hvr
    have w7 := s7.ww
    refine ⟨fun σ' H' => ∃ (Ds : List Deed) (l : Addr) (G' : Hp), σ' = [some (.ref b), some (.ref n), some u, some (.int (r : Int)), some (.int (k : Int)), some (.ref l)] ∧ Ex G7 G' ∧ Bx K b G H G' H' [] ∧ Rp K G' (.ref l) (.list (Ds.map Deed.d)) ∧ 0 < Ds.length ∧ Ds.length ≤ 10, ?_, ?_⟩
    · cases D with
      | act r0 =>
        have hu8 : Rp K G7 u (.tuple [.str "act", nD r0]) := hu7
        walk_at "q"
        exact ⟨_, p7, G7, rfl, Ex.refl _, s7, r7, by simp, by simp⟩
      | take r0 k0 =>
        have hu8 : Rp K G7 u (.tuple [.str "take", nD r0, nD k0]) := hu7
        walk_at "q"
        refine q_slTo (b := true) (k := 2) hu8 w7 (fun G8 H8 p8 g8 r8 => ?_)
        have s8 := s7.gro g8
        have w8 := s8.ww
        have r8' : Rp K G8 (.ref p8) (.tuple [.str "take", nD r0]) := r8
        walk_at "q"
        refine q_ixRT (hu8.mono g8.g) w8 (atI_nat (j := 2) rfl) (fun u2 hu2 => ?_)
        obtain rfl := rp_nD hu2
        walk_at "q"
        rename_i p9 hp9
        obtain ⟨G9, e9, k9, s9⟩ := s8.made (o := .tup [.int ((k0 : Int) + 1)]) hp9
        refine q_addTT (r8'.mono e9) (.tup (.inl (.inl k9)) (.cons (.int _) .nil)) s9.ww (show (3 : Nat) ≤ 1000000 by decide) (fun Ga Ha pa ga ra => ?_)
        have sa := s9.gro ga
        have ra' : Rp K Ga (.ref pa) (Deed.take r0 (k0 + 1)).d := ra
        have hua := hu8.mono (g8.g.trans (e9.trans ga.g))
        have r7a := r7.mono (g8.g.trans (e9.trans ga.g))
        walk_at "q"
        refine q_slTo (b := true) (k := 2) hua sa.ww (fun Gb Hb pb gb' rb => ?_)
        have sb := sa.gro gb'
        have wb := sb.ww
        have rb' : Rp K Gb (.ref pb) (.tuple [.str "take", nD r0]) := rb
        walk_at "q"
        refine q_ixRT (hua.mono gb'.g) wb (atI_nat (j := 2) rfl) (fun u2 hu2 => ?_)
        obtain rfl := rp_nD hu2
        walk_at "q"
        refine ⟨_, _, rfl, ?_⟩
        rw [show (if (k0 : Int) - 1 > 0 then (k0 : Int) - 1 else 0) = ((k0 - 1 : Nat) : Int) by split <;> omega]
        walk_at "q"
        rename_i pc hpc
        obtain ⟨Gc, ec, kc, sc⟩ := sb.made (o := .tup [.int ((k0 - 1 : Nat) : Int)]) hpc
        refine q_addTT (rb'.mono ec) (.tup (.inl (.inl kc)) (.cons (.int _) .nil)) sc.ww (show (3 : Nat) ≤ 1000000 by decide) (fun Gd Hd pd gd rd => ?_)
        have sd := sc.gro gd
        have rd' : Rp K Gd (.ref pd) (Deed.take r0 (k0 - 1)).d := rd
        walk_at "q"
        rename_i pe hpe
        obtain ⟨Ge, ee, ke, se⟩ := sd.made (o := .lst [.ref pa, .ref pd]) hpe
        have e7e := gb'.g.trans (ec.trans (gd.g.trans ee))
        have re : Rp K Ge (.ref pe) (.list ([Deed.take r0 (k0 + 1), .take r0 (k0 - 1)].map Deed.d)) := .lst ke (.cons (ra'.mono e7e) (.cons (rd'.mono ee) .nil))
        refine q_catLL (r7a.mono e7e) re se.ww (show (5 : Nat) ≤ 1000000 by decide) (fun Gf Hf pf gf rf => ?_)
        have sf := se.gro gf
        walk_at "q"
        exact ⟨[Deed.act r, .take r k, .lose c k, .take r0 (k0 + 1), .take r0 (k0 - 1)], pf, Gf, rfl, (g8.g.trans (e9.trans ga.g)).trans (e7e.trans gf.g), sf, rf, by simp, by simp⟩
      | lose r0 k0 =>
        have hu8 : Rp K G7 u (.tuple [.str "lose", nD r0, nD k0]) := hu7
        walk_at "q"
        refine q_slTo (b := true) (k := 2) hu8 w7 (fun G8 H8 p8 g8 r8 => ?_)
        have s8 := s7.gro g8
        have w8 := s8.ww
        have r8' : Rp K G8 (.ref p8) (.tuple [.str "lose", nD r0]) := r8
        walk_at "q"
        refine q_ixRT (hu8.mono g8.g) w8 (atI_nat (j := 2) rfl) (fun u2 hu2 => ?_)
        obtain rfl := rp_nD hu2
        walk_at "q"
        rename_i p9 hp9
        obtain ⟨G9, e9, k9, s9⟩ := s8.made (o := .tup [.int ((k0 : Int) + 1)]) hp9
        refine q_addTT (r8'.mono e9) (.tup (.inl (.inl k9)) (.cons (.int _) .nil)) s9.ww (show (3 : Nat) ≤ 1000000 by decide) (fun Ga Ha pa ga ra => ?_)
        have sa := s9.gro ga
        have ra' : Rp K Ga (.ref pa) (Deed.lose r0 (k0 + 1)).d := ra
        have hua := hu8.mono (g8.g.trans (e9.trans ga.g))
        have r7a := r7.mono (g8.g.trans (e9.trans ga.g))
        walk_at "q"
        refine q_slTo (b := true) (k := 2) hua sa.ww (fun Gb Hb pb gb' rb => ?_)
        have sb := sa.gro gb'
        have wb := sb.ww
        have rb' : Rp K Gb (.ref pb) (.tuple [.str "lose", nD r0]) := rb
        walk_at "q"
        refine q_ixRT (hua.mono gb'.g) wb (atI_nat (j := 2) rfl) (fun u2 hu2 => ?_)
        obtain rfl := rp_nD hu2
        walk_at "q"
        refine ⟨_, _, rfl, ?_⟩
        rw [show (if (k0 : Int) - 1 > 0 then (k0 : Int) - 1 else 0) = ((k0 - 1 : Nat) : Int) by split <;> omega]
        walk_at "q"
        rename_i pc hpc
        obtain ⟨Gc, ec, kc, sc⟩ := sb.made (o := .tup [.int ((k0 - 1 : Nat) : Int)]) hpc
        refine q_addTT (rb'.mono ec) (.tup (.inl (.inl kc)) (.cons (.int _) .nil)) sc.ww (show (3 : Nat) ≤ 1000000 by decide) (fun Gd Hd pd gd rd => ?_)
        have sd := sc.gro gd
        have rd' : Rp K Gd (.ref pd) (Deed.lose r0 (k0 - 1)).d := rd
        walk_at "q"
        rename_i pe hpe
        obtain ⟨Ge, ee, ke, se⟩ := sd.made (o := .lst [.ref pa, .ref pd]) hpe
        have e7e := gb'.g.trans (ec.trans (gd.g.trans ee))
        have re : Rp K Ge (.ref pe) (.list ([Deed.lose r0 (k0 + 1), .lose r0 (k0 - 1)].map Deed.d)) := .lst ke (.cons (ra'.mono e7e) (.cons (rd'.mono ee) .nil))
        refine q_catLL (r7a.mono e7e) re se.ww (show (5 : Nat) ≤ 1000000 by decide) (fun Gf Hf pf gf rf => ?_)
        have sf := se.gro gf
        walk_at "q"
        exact ⟨[Deed.act r, .take r k, .lose c k, .lose r0 (k0 + 1), .lose r0 (k0 - 1)], pf, Gf, rfl, (g8.g.trans (e9.trans ga.g)).trans (e7e.trans gf.g), sf, rf, by simp, by simp⟩
    · rintro σ' H' ⟨Ds, l, G', rfl, eg', s', rD, d0, d10⟩
      have w' := s'.ww
      walk_at "q"
      rw [List.length_map]
      refine s'.take (by omega) (by omega) (fun i H8 hi s8 => ?_)
      have hi' : i < Ds.length := by omega
      refine q_ixRL rD s8.ww (atI_nat (by rw [List.getElem?_map, List.getElem?_eq_getElem hi'] <;> rfl)) (fun uv huv => ?_)
      walk_at "q"
      exact q uv _ G' H8 s8 huv
end
end Cw

set_option maxHeartbeats 4000000
namespace Cw
open PySem PySem.Spec PyProof.Rows L2
section
variable {P : Program} {w : World} {K : PySem.W.Frag} {mg : Str → Option Value} {base : Heap}
abbrev s__law_spoilt : Stmt := topS 76
abbrev N__law_spoilt : List Str := ["pool", "net", "told", "full", "way", "p", "row", "at", "rows", "q"]
theorem sc__law_spoilt : FnScope N__law_spoilt ["pool", "net", "told"] (defScope s__law_spoilt) := ⟨rfl, rfl, rfl, by decide +kernel, rfl, by decide +kernel, by decide +kernel⟩
theorem c_spoilt {f : Addr} {fd : FuncData} (F : FnP K "_law_spoilt" s__law_spoilt f fd) (hm : mg "_law_spoilt" = some (.ref f)) (B : Blt mg) (C__law_take : Cal P w K mg base 2 "_law_take" ["pool", "many"] (sp_take K)) (C__law_other_deed : Cal P w K mg base 3 "_law_other_deed" ["pool", "net", "deed"] (sp_odeed K)) : Cal P w K mg base 4 "_law_spoilt" ["pool", "net", "told"] (sp_spoilt K) := by
  refine cal_of F hm sc__law_spoilt (fun _ _ _ _ _ _ _ us hl => match us, hl with | [_, _, _], _ => rfl) (fun vs H Q E h => ?_) (fun cdv A outer s H vs Q E hr h => ?_)
  · obtain ⟨_, _, _, _, _, _, _, rfl, _⟩ := h
    rfl
  · obtain ⟨G, b, n, kvs, M, u, T, rfl, eG, gb, hb, hB, hN, ok, hu0, h90, h700, q⟩ := h
    have nd := sc__law_spoilt.nd
    have hs : SmT T := sm_of (by omega) (by omega)
    have hu : Rp K G u (.tuple (T.map fun r => sqD true (r.map (sqd true)))) := hu0
    have s0 := Bx.start eG gb hb hB
    refine ⟨_, [some _, some _, some _, none, none, none, none, none, none, none], ((pss_cons (ps_setLc (i := 3) (own := [("p", 5)]) rfl nd rfl rfl (sw_true rfl rfl rfl (by decide +kernel)) (pi_range1 (by rfl) B.range_ (pa_cons (pe_callB (call_lenK (K := K) rfl) (by rfl) B.len_ bo_len (pa_cons (pv 2) pa_nil)) pa_nil)) (blkOk_by (N := N__law_spoilt) (sc := defScope s__law_spoilt) (by decide +kernel)) (fun _ _ _ _ _ => (pg_name (i := 5) nd rfl (by first | exact Or.inl rfl | exact Or.inr rfl))) (fun _ _ _ _ _ => (pts_one (pt_cmpR op_gt (pe_callB (call_lenK (K := K) rfl) (by rfl) B.len_ bo_len (pa_cons (pe_ix (ix_seqK (K := K) rfl) (pv 2) (pv 5) (fun _ _ => rfl)) pa_nil)) pe_int (nomark _)))) (fun _ _ _ _ _ => (pv 5)))
      (pss_cons (ps_set (i := 4) nd rfl (Or.inl rfl) (pe_callC C__law_take (hr.mono (by omega)) (by rfl) (pa_cons (pv 0) (pa_cons pe_int pa_nil))))
      (pss_cons (ps_if (PW.pt (pw_or (pt_cmpR (op_eqK (K := K) rfl (hu64 hr)) (pv 4) pe_int (nomark _)) (pw_or1 (pt_cmpR (op_eqK (K := K) rfl (hu64 hr)) (pe_callB (call_lenK (K := K) rfl) (by rfl) B.len_ bo_len (pa_cons (pv 3) pa_nil)) pe_int (nomark _))))) (pss_one (ps_ret (pe_ix (ix_seqK (K := K) rfl) (pe_lst (pa_cons (pe_slice (sl_anyK (K := K) rfl) (pv 2) po_none (po_some (pe_un un_neg pe_int))) (pa_cons (pe_op (op_addK (K := K) rfl) (pv 2) (pe_tup (pa_cons (pe_tup pa_nil) pa_nil))) (pa_cons (pe_op (op_addK (K := K) rfl) (pe_slice (sl_anyK (K := K) rfl) (pv 2) (po_some pe_int) po_none) (pe_slice (sl_anyK (K := K) rfl) (pv 2) po_none (po_some pe_int))) (pa_cons (pe_revTK (K := K) rfl (pv 2)) pa_nil))))) (pe_callC C__law_take (hr.mono (by omega)) (by rfl) (pa_cons (pv 0) (pa_cons pe_int pa_nil))) (fun _ _ => rfl)))) pss_nil)
      (pss_cons (ps_set (i := 5) nd rfl (Or.inl rfl) (pe_ix (ix_seqK (K := K) rfl) (pv 3) (pe_callC C__law_take (hr.mono (by omega)) (by rfl) (pa_cons (pv 0) (pa_cons (pe_callB (call_lenK (K := K) rfl) (by rfl) B.len_ bo_len (pa_cons (pv 3) pa_nil)) pa_nil))) (fun _ _ => rfl)))
      (pss_cons (ps_set (i := 6) nd rfl (Or.inl rfl) (pe_ix (ix_seqK (K := K) rfl) (pv 2) (pv 5) (fun _ _ => rfl)))
      (pss_cons (ps_set (i := 7) nd rfl (Or.inl rfl) (pe_callC C__law_take (hr.mono (by omega)) (by rfl) (pa_cons (pv 0) (pa_cons (pe_callB (call_lenK (K := K) rfl) (by rfl) B.len_ bo_len (pa_cons (pv 6) pa_nil)) pa_nil))))
      (pss_cons (ps_set (i := 8) nd rfl (Or.inl rfl) (pe_callTy (call_listK (K := K) rfl) (by rfl) B.list_ bo_list (pa_cons (pv 2) pa_nil)))
      (pss_cut (ps_if (pt_cmpR (op_eqK (K := K) rfl (hu64 hr)) (pv 4) pe_int (nomark _)) (pss_one (ps_asg (pe_op (op_addK (K := K) rfl) (pe_slice (sl_anyK (K := K) rfl) (pv 6) po_none (po_some (pv 7))) (pe_slice (sl_anyK (K := K) rfl) (pv 6) (po_some (pe_op (op_addK (K := K) rfl) (pv 7) pe_int)) po_none)) (pg_sub (pv 8) (pv 5) set_list))) (pss_one (ps_if (pt_cmpR (op_eqK (K := K) rfl (hu64 hr)) (pv 4) pe_int (nomark _)) (pss_one (ps_asg (pe_op (op_addK (K := K) rfl) (pe_slice (sl_anyK (K := K) rfl) (pv 6) po_none (po_some (pe_op (op_addK (K := K) rfl) (pv 7) pe_int))) (pe_slice (sl_anyK (K := K) rfl) (pv 6) (po_some (pv 7)) po_none)) (pg_sub (pv 8) (pv 5) set_list))) (pss_one (ps_if (pt_cmpR (op_eqK (K := K) rfl (hu64 hr)) (pv 4) pe_int (nomark _)) (pss_one (ps_asg (pe_op (op_addK (K := K) rfl) (pe_op (op_addK (K := K) rfl) (pe_op (op_addK (K := K) rfl) (pe_slice (sl_anyK (K := K) rfl) (pv 6) po_none (po_some (pv 7))) (pe_slice (sl_anyK (K := K) rfl) (pv 6) (po_some (pe_op (op_addK (K := K) rfl) (pv 7) pe_int)) (po_some (pe_op (op_addK (K := K) rfl) (pv 7) pe_int)))) (pe_slice (sl_anyK (K := K) rfl) (pv 6) (po_some (pv 7)) (po_some (pe_op (op_addK (K := K) rfl) (pv 7) pe_int)))) (pe_slice (sl_anyK (K := K) rfl) (pv 6) (po_some (pe_op (op_addK (K := K) rfl) (pv 7) pe_int)) po_none)) (pg_sub (pv 8) (pv 5) set_list))) (pss_one (ps_if (pt_cmpR (op_eqK (K := K) rfl (hu64 hr)) (pv 4) pe_int (nomark _)) (pss_cons (ps_asg (pe_op (op_addK (K := K) rfl) (pe_slice (sl_anyK (K := K) rfl) (pv 6) po_none (po_some (pv 7))) (pe_slice (sl_anyK (K := K) rfl) (pv 6) (po_some (pe_op (op_addK (K := K) rfl) (pv 7) pe_int)) po_none)) (pg_sub (pv 8) (pv 5) set_list))
      (pss_cons (ps_set (i := 9) nd rfl (Or.inl rfl) (pe_callC C__law_take (hr.mono (by omega)) (by rfl) (pa_cons (pv 0) (pa_cons (pe_callB (call_lenK (K := K) rfl) (by rfl) B.len_ bo_len (pa_cons (pv 2) pa_nil)) pa_nil))))
      (pss_one (ps_asg (pe_op (op_addK (K := K) rfl) (pe_ix (ix_seqK (K := K) rfl) (pv 8) (pv 9) (fun _ _ => rfl)) (pe_slice (sl_anyK (K := K) rfl) (pv 6) (po_some (pv 7)) (po_some (pe_op (op_addK (K := K) rfl) (pv 7) pe_int)))) (pg_sub (pv 8) (pv 9) set_list))))) (pss_one (ps_asg (pe_op (op_addK (K := K) rfl) (pe_op (op_addK (K := K) rfl) (pe_slice (sl_anyK (K := K) rfl) (pv 6) po_none (po_some (pv 7))) (pe_tup (pa_cons (pe_callC C__law_other_deed (hr.mono (by omega)) (by rfl) (pa_cons (pv 0) (pa_cons (pv 1) (pa_cons (pe_ix (ix_seqK (K := K) rfl) (pv 6) (pv 7) (fun _ _ => rfl)) pa_nil)))) pa_nil))) (pe_slice (sl_anyK (K := K) rfl) (pv 6) (po_some (pe_op (op_addK (K := K) rfl) (pv 7) pe_int)) po_none)) (pg_sub (pv 8) (pv 5) set_list))))))))))
      (pss_one (ps_ret (pe_callTy (call_tupK (K := K) rfl) (by rfl) B.tuple_ bo_tuple (pa_cons (pv 8) pa_nil))))))))))))), rfl, ?_⟩
    walk_at "q"
    rw [List.length_map]
    refine q_lcRF T.length (by omega) eG (fun p => decide (0 < (T.getD p []).length)) (fun _ => rfl) (fun _ => rfl) (fun p hp G1 H1 g1 C hC => ?_) (fun D G1 H1 g1 gD hD hl => ?_)
    · have w1 := g1.w
      have hu1 := hu.mono g1.g
      walk_at "q"
      refine q_ixRT hu1 w1 (atI_nat (rowsD_at hp)) (fun ur hur => ?_)
      have hur' : Rp K G1 ur (.tuple ((T.getD p []).map (sqd true))) := hur
      walk_at "q"
      rw [List.length_map]
      have e : decide ((((T.getD p []).length : Nat) : Int) > 0) = decide (0 < (T.getD p []).length) := decide_eq_decide.mpr (by omega)
      have h := hC G1 H1 (Gro.refl w1)
      rw [← e] at h
      exact h
    have g2 := Acc.know (l := D) ⟨g1, gD, hl, hD⟩
    have s1 := s0.gro g2
    have r1 : Rp K (L2.upd G1 D (.lst (((List.range T.length).filter fun p => decide (0 < (T.getD p []).length)).map fun i => V.int (i : Nat)))) (.ref D) (.list (((List.range T.length).filter fun p => decide (0 < (T.getD p []).length)).map nD)) := .lst upd_same (rps_nats _)
    have hF : ∀ p ∈ (List.range T.length).filter fun p => decide (0 < (T.getD p []).length), p < T.length ∧ 0 < (T.getD p []).length := fun p hp => by
      obtain ⟨m1, m2⟩ := List.mem_filter.mp hp
      exact ⟨List.mem_range.mp m1, of_decide_eq_true m2⟩
    have lF : ((List.range T.length).filter fun p => decide (0 < (T.getD p []).length)).length ≤ 90 := by
      have := List.length_filter_le (fun p => decide (0 < (T.getD p []).length)) (List.range T.length)
      rw [List.length_range] at this
      omega
    generalize L2.upd G1 D (.lst (((List.range T.length).filter fun p => decide (0 < (T.getD p []).length)).map fun i => V.int (i : Nat))) = G2 at g2 s1 r1
    generalize ((List.range T.length).filter fun p => decide (0 < (T.getD p []).length)) = F at r1 hF lF
    have hu2 := hu.mono g2.g
    clear g1 gD hl hD
    walk_at "q"
    refine s1.take (by decide) (by decide) (fun way H2 hway s2 => ?_)
    have w2 := s2.ww
    walk_at "q"
    refine q_ifd (fun h1 => ?_) (fun h1 => ?_)
    · walk_at "q"
      refine q_slAB (b := true) hu2 s2.ww (fun G3 H3 p3 g3 r3 => ?_)
      have s3 := s2.gro g3
      walk_at "q"
      rename_i pa hpa pb hpb
      obtain ⟨G4, e4, k4, s4⟩ := s3.made (o := .tup []) hpa
      obtain ⟨G5, e5, k5, s5⟩ := s4.made (o := .tup [.ref pa]) hpb
      have e35 := e4.trans e5
      have hu5 := hu2.mono (g3.g.trans e35)
      refine q_addTT hu5 (.tup (.inl (.inl k5)) (.cons (.tup (.inl (.inl (e5 _ _ k4))) .nil) .nil)) s5.ww (by rw [List.length_map]; simp only [List.length_cons, List.length_nil]; omega) (fun G6 H6 p6 g6 r6 => ?_)
      have s6 := s5.gro g6
      walk_at "q"
      refine q_slAB (b := true) (hu5.mono g6.g) s6.ww (fun G7 H7 p7 g7 r7 => ?_)
      have s7 := s6.gro g7
      walk_at "q"
      refine q_slAB (b := true) (hu5.mono (g6.g.trans g7.g)) s7.ww (fun G8 H8 p8 g8 r8 => ?_)
      have s8 := s7.gro g8
      walk_at "q"
      refine q_addTT (r7.mono g8.g) r8 s8.ww (by have h1 := cutL_len (T.map fun r => sqD true (r.map (sqd true))) (some 1) none; have h2 := cutL_len (T.map fun r => sqD true (r.map (sqd true))) none (some 1); rw [List.length_map] at h1 h2; omega) (fun G9 H9 p9 g9 r9 => ?_)
      have s9 := s8.gro g9
      have e59 := g6.g.trans (g7.g.trans (g8.g.trans g9.g))
      walk_at "q"
      refine q_revT ?_
      walk_at "q"
      obtain ⟨lt, vst, eu, hSt, hrt⟩ := rp_tup (hu5.mono e59)
      refine ⟨lt, vst, eu, s9.ww.st hSt, fun pc hpc => ?_⟩
      have ga := Gro.new (o := .tup vst.reverse) s9.ww hpc
      have ra : Rp K _ (.ref pc) (.tuple (T.map fun r => sqD true (r.map (sqd true))).reverse) := .tup (.inl (.inl upd_same)) (hrt.rev.mono (Ex.new (s9.ww.back hpc)))
      have sa := s9.gro ga
      walk_at "q"
      rename_i pl hpl
      obtain ⟨Gb, eb, kb, sb⟩ := sa.made (o := .lst [.ref p3, .ref p6, .ref p9, .ref pc]) hpl
      refine sb.take (by decide) (by decide) (fun i Hc hi sc => ?_)
      refine q_ixLn (.inl (.inl (sc.ww _ _ kb))) (by omega) hi (fun v hv => ?_)
      rw [cutL_map] at r3
      rw [cutL_map, cutL_map, ← List.map_append] at r9
      rw [← List.map_reverse] at ra
      have e9b := ga.g.trans eb
      obtain ⟨T', rT, l1, l2⟩ : ∃ T' : List (List Deed), Rp K Gb v (rowsD true true true T') ∧ T'.length ≤ T.length + 1 ∧ tot T' ≤ tot T + 1 := by
        simp only [List.mem_cons, List.mem_nil_iff, or_false] at hv
        rcases hv with rfl | rfl | rfl | rfl
        · exact ⟨_, r3.mono (e35.trans (e59.trans e9b)), by have := cutL_len T none (some (-1)); omega, by have := tot_cut T none (some (-1)); omega⟩
        · refine ⟨T ++ [[]], ?_, by rw [List.length_append] <;> exact Nat.le_refl _, by rw [tot_app]; exact Nat.le_succ _⟩
          have h := r6.mono ((g7.g.trans (g8.g.trans g9.g)).trans e9b)
          unfold rowsD
          rw [List.map_append]
          exact h
        · refine ⟨_, r9.mono e9b, ?_, ?_⟩
          · have e1 : cutL T (some 1) none = T.drop 1 := cutL_from T 1
            have e2 : cutL T none (some 1) = T.take 1 := cutL_to T 1
            rw [e1, e2, List.length_append, List.length_drop, List.length_take]
            omega
          · have e1 : cutL T (some 1) none = T.drop 1 := cutL_from T 1
            have e2 : cutL T none (some 1) = T.take 1 := cutL_to T 1
            have e3 : tot T = tot (T.take 1) + tot (T.drop 1) := by rw [← tot_app, List.take_append_drop]
            rw [e1, e2, tot_app]
            omega
        · exact ⟨_, ra.mono eb, by rw [List.length_reverse]; omega, by rw [tot_rev]; omega⟩
      walk_at "q"
      exact q v T' Gb Hc sc rT l1 l2
    walk_at "q"
    rw [List.length_map]
    refine q_ifd (fun h2 => ?_) (fun h2 => ?_)
    · walk_at "q"
      refine q_slAB (b := true) hu2 s2.ww (fun G3 H3 p3 g3 r3 => ?_)
      have s3 := s2.gro g3
      walk_at "q"
      rename_i pa hpa pb hpb
      obtain ⟨G4, e4, k4, s4⟩ := s3.made (o := .tup []) hpa
      obtain ⟨G5, e5, k5, s5⟩ := s4.made (o := .tup [.ref pa]) hpb
      have e35 := e4.trans e5
      have hu5 := hu2.mono (g3.g.trans e35)
      refine q_addTT hu5 (.tup (.inl (.inl k5)) (.cons (.tup (.inl (.inl (e5 _ _ k4))) .nil) .nil)) s5.ww (by rw [List.length_map]; simp only [List.length_cons, List.length_nil]; omega) (fun G6 H6 p6 g6 r6 => ?_)
      have s6 := s5.gro g6
      walk_at "q"
      refine q_slAB (b := true) (hu5.mono g6.g) s6.ww (fun G7 H7 p7 g7 r7 => ?_)
      have s7 := s6.gro g7
      walk_at "q"
      refine q_slAB (b := true) (hu5.mono (g6.g.trans g7.g)) s7.ww (fun G8 H8 p8 g8 r8 => ?_)
      have s8 := s7.gro g8
      walk_at "q"
      refine q_addTT (r7.mono g8.g) r8 s8.ww (by have h1 := cutL_len (T.map fun r => sqD true (r.map (sqd true))) (some 1) none; have h2 := cutL_len (T.map fun r => sqD true (r.map (sqd true))) none (some 1); rw [List.length_map] at h1 h2; omega) (fun G9 H9 p9 g9 r9 => ?_)
      have s9 := s8.gro g9
      have e59 := g6.g.trans (g7.g.trans (g8.g.trans g9.g))
      walk_at "q"
      refine q_revT ?_
      walk_at "q"
      obtain ⟨lt, vst, eu, hSt, hrt⟩ := rp_tup (hu5.mono e59)
      refine ⟨lt, vst, eu, s9.ww.st hSt, fun pc hpc => ?_⟩
      have ga := Gro.new (o := .tup vst.reverse) s9.ww hpc
      have ra : Rp K _ (.ref pc) (.tuple (T.map fun r => sqD true (r.map (sqd true))).reverse) := .tup (.inl (.inl upd_same)) (hrt.rev.mono (Ex.new (s9.ww.back hpc)))
      have sa := s9.gro ga
      walk_at "q"
      rename_i pl hpl
      obtain ⟨Gb, eb, kb, sb⟩ := sa.made (o := .lst [.ref p3, .ref p6, .ref p9, .ref pc]) hpl
      refine sb.take (by decide) (by decide) (fun i Hc hi sc => ?_)
      refine q_ixLn (.inl (.inl (sc.ww _ _ kb))) (by omega) hi (fun v hv => ?_)
      rw [cutL_map] at r3
      rw [cutL_map, cutL_map, ← List.map_append] at r9
      rw [← List.map_reverse] at ra
      have e9b := ga.g.trans eb
      obtain ⟨T', rT, l1, l2⟩ : ∃ T' : List (List Deed), Rp K Gb v (rowsD true true true T') ∧ T'.length ≤ T.length + 1 ∧ tot T' ≤ tot T + 1 := by
        simp only [List.mem_cons, List.mem_nil_iff, or_false] at hv
        rcases hv with rfl | rfl | rfl | rfl
        · exact ⟨_, r3.mono (e35.trans (e59.trans e9b)), by have := cutL_len T none (some (-1)); omega, by have := tot_cut T none (some (-1)); omega⟩
        · refine ⟨T ++ [[]], ?_, by rw [List.length_append] <;> exact Nat.le_refl _, by rw [tot_app]; exact Nat.le_succ _⟩
          have h := r6.mono ((g7.g.trans (g8.g.trans g9.g)).trans e9b)
          unfold rowsD
          rw [List.map_append]
          exact h
        · refine ⟨_, r9.mono e9b, ?_, ?_⟩
          · have e1 : cutL T (some 1) none = T.drop 1 := cutL_from T 1
            have e2 : cutL T none (some 1) = T.take 1 := cutL_to T 1
            rw [e1, e2, List.length_append, List.length_drop, List.length_take]
            omega
          · have e1 : cutL T (some 1) none = T.drop 1 := cutL_from T 1
            have e2 : cutL T none (some 1) = T.take 1 := cutL_to T 1
            have e3 : tot T = tot (T.take 1) + tot (T.drop 1) := by rw [← tot_app, List.take_append_drop]
            rw [e1, e2, tot_app]
            omega
        · exact ⟨_, ra.mono eb, by rw [List.length_reverse]; omega, by rw [tot_rev]; omega⟩
      walk_at "q"
      exact q v T' Gb Hc sc rT l1 l2
    walk_at "q"
    rw [List.length_map]
    refine s2.take (by omega) (by omega) (fun i H3 hi s3 => ?_)
    have hi' : i < F.length := by omega
    refine q_ixRL r1 s3.ww (atI_nat (by rw [List.getElem?_map, List.getElem?_eq_getElem hi'] <;> rfl)) (fun up hup => ?_)
    obtain rfl := rp_nD hup
    obtain ⟨hp, hrow⟩ := hF _ (List.getElem_mem hi')
    generalize F[i] = p at hp hrow ⊢
    have w3 := s3.ww
    walk_at "q"
    refine q_ixRT hu2 w3 (atI_nat (rowsD_at hp)) (fun ur hur => ?_)
    have er : (T.getD p []).length ≤ 900 := row_le hs p
    have ets := fun r' : List Deed => tot_set (T := T) (p := p) (r := r') hp
    generalize T.getD p [] = r at hrow hur er ets
    have hur' : Rp K G2 ur (.tuple (r.map (sqd true))) := hur
    walk_at "q"
    rw [List.length_map]
    refine s3.take (by omega) (by omega) (fun at_ H4 hat s4 => ?_)
    have hat' : at_ < r.length := by omega
    have w4 := s4.ww
    walk_at "q"
    refine q_lstRS hu2 (.inr rfl) w4 (fun vs l hvs hl => ?_)
    have s5 := s4.open_ (o := .lst vs) hl
    generalize L2.upd H4 l (.lst vs) = H5 at s5 ⊢
    clear s4 s3 s2 s1 w4 w3 w2 hl
    have w5 := s5.ww
    have fin : ∀ (pw : Addr) (r' : List Deed) (G' H' : Hp), Ex G2 G' → Bx K b G H G' H' [(l, .lst vs)] → Rp K G' (.ref pw) (.tuple (r'.map (sqd true))) → r'.length ≤ r.length + 1 → ∀ R : Hp → Prop, (∀ (vs' : List V) (T' : List (List Deed)), Bx K b G H G' (L2.upd H' l (.lst vs')) [(l, .lst vs')] → Rps K G' vs' (T'.map fun r => sqD true (r.map (sqd true))) → T'.length = T.length → tot T' + r.length = tot T + r'.length → R (L2.upd H' l (.lst vs'))) → rSetL (.ref l) (.int (p : Int)) (.ref pw) H' R := fun pw r' G' H' eg s' rw' hl R hR => by
      refine q_set s'.at0 (ixOf (by rw [hvs.len, List.length_map]; exact hp)) ?_
      refine hR _ (T.set p r') (s'.put0 _) ?_ (by rw [List.length_set]) (ets r')
      rw [List.map_set]
      exact Rps.set rw' _ (hvs.mono eg)
    refine ⟨fun σ' H' => ∃ (z9 : Option V) (vs' : List V) (T' : List (List Deed)) (G' : Hp), σ' = [some (.ref b), some (.ref n), some u, some (.ref D), some (.int (way : Int)), some (.int (p : Int)), some ur, some (.int (at_ : Int)), some (.ref l), z9] ∧ Bx K b G H G' H' [(l, .lst vs')] ∧ Rps K G' vs' (T'.map fun r => sqD true (r.map (sqd true))) ∧ T'.length = T.length ∧ tot T' ≤ tot T + 1, ?_, ?_⟩
    · have c1 : cutL r none (some (at_ : Int)) = r.take at_ := cutL_to r at_
      have c2 : cutL r (some (at_ : Int)) none = r.drop at_ := cutL_from r at_
      have c3 : cutL r none (some ((at_ : Int) + 1)) = r.take (at_ + 1) := cutL_to r (at_ + 1)
      have c4 : cutL r (some ((at_ : Int) + 1)) none = r.drop (at_ + 1) := cutL_from r (at_ + 1)
      have c5 : cutL r (some ((at_ : Int) + 2)) none = r.drop (at_ + 2) := cutL_from r (at_ + 2)
      have c6 : (cutL r (some (at_ : Int)) (some ((at_ : Int) + 1))).length ≤ 1 := by have h : (cutL r (some (at_ : Int)) (some ((at_ : Int) + 1))).length ≤ (at_ + 1) - at_ := cutL_mid r at_ (at_ + 1); omega
      have c7 : (cutL r (some ((at_ : Int) + 1)) (some ((at_ : Int) + 2))).length ≤ 1 := by have h : (cutL r (some ((at_ : Int) + 1)) (some ((at_ : Int) + 2))).length ≤ (at_ + 2) - (at_ + 1) := cutL_mid r (at_ + 1) (at_ + 2); omega
      have lt1 : (r.take at_).length = at_ := by rw [List.length_take]; omega
      have ld1 : (r.drop (at_ + 1)).length = r.length - (at_ + 1) := List.length_drop
      have ld0 : (r.drop at_).length = r.length - at_ := List.length_drop
      have ld2 : (r.drop (at_ + 2)).length = r.length - (at_ + 2) := List.length_drop
      have lt2 : (r.take (at_ + 1)).length = at_ + 1 := by rw [List.length_take]; omega
      walk_at "q"
      refine q_ifd (fun h3 => ?_) (fun h3 => ?_)
      · walk_at "q"
        refine q_slAB (b := true) hur w5 (fun G6 H6 p6 g6 r6 => ?_)
        rw [cutL_map, c1] at r6
        have s6 := s5.gro g6
        walk_at "q"
        refine q_slAB (b := true) (hur.mono g6.g) s6.ww (fun G7 H7 p7 g7 r7 => ?_)
        rw [cutL_map, c4] at r7
        have s7 := s6.gro g7
        walk_at "q"
        refine q_addTT (r6.mono g7.g) r7 s7.ww (by rw [List.length_map, List.length_map, lt1, ld1]; omega) (fun G8 H8 p8 g8 r8 => ?_)
        rw [← List.map_append] at r8
        have s8 := s7.gro g8
        walk_at "q"
        refine fin p8 _ G8 H8 (g6.g.trans (g7.g.trans g8.g)) s8 r8 (by rw [List.length_append, lt1, ld1]; omega) _ (fun vs' T' s9 r9 hl ht => ?_)
        exact ⟨_, vs', T', G8, rfl, s9, r9, hl, by rw [List.length_append, lt1, ld1] at ht; omega⟩
      walk_at "q"
      refine q_ifd (fun h4 => ?_) (fun h4 => ?_)
      · walk_at "q"
        refine q_slAB (b := true) hur w5 (fun G6 H6 p6 g6 r6 => ?_)
        rw [cutL_map, c3] at r6
        have s6 := s5.gro g6
        walk_at "q"
        refine q_slAB (b := true) (hur.mono g6.g) s6.ww (fun G7 H7 p7 g7 r7 => ?_)
        rw [cutL_map, c2] at r7
        have s7 := s6.gro g7
        walk_at "q"
        refine q_addTT (r6.mono g7.g) r7 s7.ww (by rw [List.length_map, List.length_map, lt2, ld0]; omega) (fun G8 H8 p8 g8 r8 => ?_)
        rw [← List.map_append] at r8
        have s8 := s7.gro g8
        walk_at "q"
        refine fin p8 _ G8 H8 (g6.g.trans (g7.g.trans g8.g)) s8 r8 (by rw [List.length_append, lt2, ld0]; omega) _ (fun vs' T' s9 r9 hl ht => ?_)
        exact ⟨_, vs', T', G8, rfl, s9, r9, hl, by rw [List.length_append, lt2, ld0] at ht; omega⟩
      walk_at "q"
      refine q_ifd (fun h5 => ?_) (fun h5 => ?_)
      · walk_at "q"
        refine q_slAB (b := true) hur w5 (fun G6 H6 p6 g6 r6 => ?_)
        rw [cutL_map, c1] at r6
        have s6 := s5.gro g6
        walk_at "q"
        refine q_slAB (b := true) (hur.mono g6.g) s6.ww (fun G7 H7 p7 g7 r7 => ?_)
        rw [cutL_map] at r7
        have s7 := s6.gro g7
        walk_at "q"
        refine q_addTT (r6.mono g7.g) r7 s7.ww (by rw [List.length_map, List.length_map, lt1]; omega) (fun G8 H8 p8 g8 r8 => ?_)
        rw [← List.map_append] at r8
        have s8 := s7.gro g8
        walk_at "q"
        refine q_slAB (b := true) (hur.mono (g6.g.trans (g7.g.trans g8.g))) s8.ww (fun G9 H9 p9 g9 r9 => ?_)
        rw [cutL_map] at r9
        have s9 := s8.gro g9
        walk_at "q"
        refine q_addTT (r8.mono g9.g) r9 s9.ww (by rw [List.length_map, List.length_map, List.length_append, lt1]; omega) (fun Ga Ha pa ga ra => ?_)
        rw [← List.map_append] at ra
        have sa := s9.gro ga
        walk_at "q"
        refine q_slAB (b := true) (hur.mono (g6.g.trans (g7.g.trans (g8.g.trans (g9.g.trans ga.g))))) sa.ww (fun Gb Hb pb gb' rb => ?_)
        rw [cutL_map, c5] at rb
        have sb := sa.gro gb'
        walk_at "q"
        refine q_addTT (ra.mono gb'.g) rb sb.ww (by rw [List.length_map, List.length_map, List.length_append, List.length_append, lt1, ld2]; omega) (fun Gc Hc pc gc rc => ?_)
        rw [← List.map_append] at rc
        have sc := sb.gro gc
        walk_at "q"
        refine fin pc _ Gc Hc (g6.g.trans (g7.g.trans (g8.g.trans (g9.g.trans (ga.g.trans (gb'.g.trans gc.g)))))) sc rc (by rw [List.length_append, List.length_append, List.length_append, lt1, ld2]; omega) _ (fun vs' T' sd rd hl ht => ?_)
        exact ⟨_, vs', T', Gc, rfl, sd, rd, hl, by rw [List.length_append, List.length_append, List.length_append, lt1, ld2] at ht; omega⟩
      walk_at "q"
      refine q_ifd (fun h6 => ?_) (fun h6 => ?_)
      · walk_at "q"
        refine q_slAB (b := true) hur w5 (fun G6 H6 p6 g6 r6 => ?_)
        rw [cutL_map, c1] at r6
        have s6 := s5.gro g6
        walk_at "q"
        refine q_slAB (b := true) (hur.mono g6.g) s6.ww (fun G7 H7 p7 g7 r7 => ?_)
        rw [cutL_map, c4] at r7
        have s7 := s6.gro g7
        walk_at "q"
        refine q_addTT (r6.mono g7.g) r7 s7.ww (by rw [List.length_map, List.length_map, lt1, ld1]; omega) (fun G8 H8 p8 g8 r8 => ?_)
        rw [← List.map_append] at r8
        have s8 := s7.gro g8
        walk_at "q"
        refine fin p8 _ G8 H8 (g6.g.trans (g7.g.trans g8.g)) s8 r8 (by rw [List.length_append, lt1, ld1]; omega) _ (fun vs' T' s9 r9 hl ht => ?_)
        rw [List.length_append, lt1, ld1] at ht
        have hu8 := hu2.mono (g6.g.trans (g7.g.trans g8.g))
        have hur8 := hur.mono (g6.g.trans (g7.g.trans g8.g))
        generalize L2.upd H8 l (.lst vs') = H9 at s9 ⊢
        have w9 := s9.ww
        walk_at "q"
        rw [List.length_map]
        refine s9.take (by omega) (by omega) (fun qq Ha hq sa => ?_)
        have hq' : qq < T'.length := by omega
        obtain ⟨vq, hvq, rq⟩ := r9.get (rowsD_at (c := true) (b := true) hq')
        have ets2 := fun r' : List Deed => tot_set (T := T') (p := qq) (r := r') hq'
        have etr := row_tot T' qq
        generalize T'.getD qq [] = tq at rq ets2 etr
        have rq' : Rp K G8 vq (.tuple (tq.map (sqd true))) := rq
        have ha0 := sa.at0
        walk_at "q"
        refine q_ixC ha0 (atI_nat hvq) ?_
        walk_at "q"
        refine q_slAB (b := true) hur8 sa.ww (fun Gb Hb pb gb' rb => ?_)
        rw [cutL_map] at rb
        have sb := sa.gro gb'
        walk_at "q"
        refine q_addTT (rq'.mono gb'.g) rb sb.ww (by rw [List.length_map, List.length_map]; omega) (fun Gc Hc pc gc rc => ?_)
        rw [← List.map_append] at rc
        have sc := sb.gro gc
        walk_at "q"
        refine q_set sc.at0 (ixOf (by rw [r9.len, List.length_map]; exact hq')) ?_
        refine ⟨_, _, T'.set qq (tq ++ cutL r (some (at_ : Int)) (some ((at_ : Int) + 1))), Gc, rfl, sc.put0 _, ?_, by rw [List.length_set]; exact hl, ?_⟩
        · rw [List.map_set]
          exact Rps.set rc _ (r9.mono (gb'.g.trans gc.g))
        · have := ets2 (tq ++ cutL r (some (at_ : Int)) (some ((at_ : Int) + 1)))
          rw [List.length_append] at this
          omega
      · walk_at "q"
        refine q_slAB (b := true) hur w5 (fun G6 H6 p6 g6 r6 => ?_)
        rw [cutL_map, c1] at r6
        have s6 := s5.gro g6
        walk_at "q"
        refine q_ixRT (hur'.mono g6.g) s6.ww (atI_nat (by rw [List.getElem?_map, List.getElem?_eq_getElem hat'] <;> rfl)) (fun ud hud => ?_)
        walk_at "q"
        obtain ⟨kv, hkv, hBv⟩ := s6.pool
        refine ⟨G6, b, n, kv, M, ud, r[at_], rfl, s6.ww, s6.gb, hkv, hBv, hN.mono (g2.g.trans g6.g), ok, hud, fun v D' G7 H7 s7' r7 => ?_⟩
        have s7 := s6.grobB s7'
        walk_at "q"
        rename_i p8 hp8
        obtain ⟨G8, e8, k8, s8⟩ := s7.made (o := .tup [v]) hp8
        have r8 : Rp K G8 (.ref p8) (.tuple ([D'].map (sqd true))) := .tup (.inl (.inl k8)) (.cons (r7.mono e8) .nil)
        refine q_addTT (r6.mono (s7'.g.trans e8)) r8 s8.ww (by rw [List.length_map, List.length_map, lt1]; simp only [List.length_cons, List.length_nil]; omega) (fun G9 H9 p9 g9 r9 => ?_)
        rw [← List.map_append] at r9
        have s9 := s8.gro g9
        have e59 := g6.g.trans (s7'.g.trans (e8.trans g9.g))
        walk_at "q"
        refine q_slAB (b := true) (hur.mono e59) s9.ww (fun Ga Ha pa ga ra => ?_)
        rw [cutL_map, c4] at ra
        have sa := s9.gro ga
        walk_at "q"
        refine q_addTT (r9.mono ga.g) ra sa.ww (by rw [List.length_map, List.length_map, List.length_append, lt1, ld1]; simp only [List.length_cons, List.length_nil]; omega) (fun Gb Hb pb gb' rb => ?_)
        rw [← List.map_append] at rb
        have sb := sa.gro gb'
        walk_at "q"
        have lw : (r.take at_ ++ [D'] ++ r.drop (at_ + 1)).length = r.length := by rw [List.length_append, List.length_append, lt1, ld1]; simp only [List.length_cons, List.length_nil]; omega
        refine fin pb _ Gb Hb (e59.trans (ga.g.trans gb'.g)) sb rb (by rw [lw]; omega) _ (fun vs' T' sd rd hl ht => ?_)
        exact ⟨_, vs', T', Gb, rfl, sd, rd, hl, by rw [lw] at ht; omega⟩
    · rintro σ' H' ⟨z9, vs', T', G', rfl, s', r', hl, ht⟩
      have ha0 := s'.at0
      walk_at "q"
      refine q_tupL ha0 (fun pt hpt => ?_)
      obtain ⟨G6, e6, k6, s6⟩ := s'.made (o := .tup vs') hpt
      obtain ⟨G7, e7, k7, s7⟩ := s6.close
      walk_at "q"
      exact q _ T' G7 _ s7 (.tup (.inl (.inl (e7 _ _ k6))) (r'.mono (e6.trans e7))) (by omega) ht
end
end Cw

set_option maxHeartbeats 4000000
namespace Cw
open PySem PySem.Spec PyProof.Rows L2
section
variable {P : Program} {w : World} {K : PySem.W.Frag} {mg : Str → Option Value} {base : Heap}
abbrev s__law_circle : Stmt := topS 77
abbrev N__law_circle : List Str := ["pool", "many", "names", "channels", "rules", "rows", "p", "kind", "token", "before", "net", "name"]
theorem sc__law_circle : FnScope N__law_circle ["pool"] (defScope s__law_circle) := ⟨rfl, rfl, rfl, by decide +kernel, rfl, by decide +kernel, by decide +kernel⟩
theorem RuOk.more {ps cs es : List PyData} {r : PyData} (h : RuOk ps cs r) : RuOk ps (cs ++ es) r := by
  obtain ⟨p, s, t, a, z, st, e, hp, h1, h2, h3⟩ := h
  refine ⟨p, s, t, a, z, st, e, hp, h1, h2, ?_⟩
  rcases h3 with h3 | ⟨c, k, y, g, tk, kd, hc, hk, hh⟩
  · exact .inl h3
  · exact .inr ⟨c, k, y, g, tk, kd, by rw [List.getElem?_append_left (List.getElem?_eq_some_iff.mp hc).1]; exact hc, hk, hh⟩
theorem c_circle8 {f : Addr} {fd : FuncData} (F : FnP K "_law_circle" s__law_circle f fd) (hm : mg "_law_circle" = some (.ref f)) (B : Blt mg) (C__law_take : Cal P w K mg base 2 "_law_take" ["pool", "many"] (sp_take K)) (C__law_names : Cal P w K mg base 3 "_law_names" ["pool", "many"] (sp_dnames K)) : Cal P w K mg base 4 "_law_circle" ["pool"] (sp_circle8 K) := by
  refine cal_of F hm sc__law_circle (fun _ _ _ _ _ _ _ us hl => match us, hl with | [_], _ => rfl) (fun vs H Q E h => ?_) (fun cdv A outer s H vs Q E hr h => ?_)
  · obtain ⟨_, _, _, rfl, _⟩ := h
    rfl
  · obtain ⟨G, b, kvs, rfl, eG, gb, hb, hB, q⟩ := h
    have nd := sc__law_circle.nd
    have s0 := Bx.start eG gb hb hB
    refine ⟨_, [some _, none, none, none, none, none, none, none, none, none, none, none], ((pss_cons (ps_set (i := 1) nd rfl (Or.inl rfl) (pe_op (op_addK (K := K) rfl) pe_int (pe_callC C__law_take (hr.mono (by omega)) (by rfl) (pa_cons (pv 0) (pa_cons pe_int pa_nil)))))
      (pss_cons (ps_set (i := 2) nd rfl (Or.inl rfl) (pe_callC C__law_names (hr.mono (by omega)) (by rfl) (pa_cons (pv 0) (pa_cons (pv 1) pa_nil))))
      (pss_cons (ps_set (i := 3) nd rfl (Or.inl rfl) (pe_lst pa_nil))
      (pss_cons (ps_set (i := 4) nd rfl (Or.inl rfl) (pe_lst pa_nil))
      (pss_cons (ps_set (i := 5) nd rfl (Or.inl rfl) (pe_lst pa_nil))
      (pss_cons (ps_for PassesOwn.never rfl (pi_range1 (by rfl) B.range_ (pa_cons (pv 1) pa_nil)) (pg_name (i := 6) nd rfl (by first | exact Or.inl rfl | exact Or.inr rfl)) (pss_cons (ps_set (i := 7) nd rfl (Or.inl rfl) (pe_ix (ix_seqK (K := K) rfl) (pe_lst (pa_cons pe_str (pa_cons pe_str (pa_cons pe_str (pa_cons pe_str pa_nil))))) (pe_callC C__law_take (hr.mono (by omega)) (by rfl) (pa_cons (pv 0) (pa_cons pe_int pa_nil))) (fun _ _ => rfl)))
      (pss_cons (ps_set (i := 8) nd rfl (Or.inl rfl) (pe_callC C__law_take (hr.mono (by omega)) (by rfl) (pa_cons (pv 0) (pa_cons pe_int pa_nil))))
      (pss_cons (ps_expr (pe_bmK (K := K) rfl PySem.F.plainAttrs_list PySem.F.slot_list_append PySem.F.type_list_append mt_append (pv 3) (pa_cons (pe_tup (pa_cons (pe_ix (ix_seqK (K := K) rfl) (pv 2) (pv 6) (fun _ _ => rfl)) (pa_cons (pv 6) (pa_cons (pe_op op_mod (pe_callTy call_intA (by rfl) B.int_ bo_int (pa_cons (pe_op (op_addK (K := K) rfl) (pv 6) pe_int) pa_nil)) (pv 1)) (pa_cons (pv 7) pa_nil))))) pa_nil)))
      (pss_cons (ps_expr (pe_bmK (K := K) rfl PySem.F.plainAttrs_list PySem.F.slot_list_append PySem.F.type_list_append mt_append (pv 4) (pa_cons (pe_tup (pa_cons (pv 6) (pa_cons pe_int (pa_cons (pe_tup (pa_cons pe_str (pa_cons (pv 6) (pa_cons (pv 8) pa_nil)))) (pa_cons pe_int pa_nil))))) pa_nil)))
      (pss_one (ps_expr (pe_bmK (K := K) rfl PySem.F.plainAttrs_list PySem.F.slot_list_append PySem.F.type_list_append mt_append (pv 4) (pa_cons (pe_tup (pa_cons (pe_op op_mod (pe_callTy call_intA (by rfl) B.int_ bo_int (pa_cons (pe_op (op_addK (K := K) rfl) (pv 6) pe_int) pa_nil)) (pv 1)) (pa_cons pe_int (pa_cons (pe_tup (pa_cons pe_str (pa_cons (pv 6) (pa_cons (pv 8) pa_nil)))) (pa_cons pe_int pa_nil))))) pa_nil)))))))))
      (pss_cons (ps_for PassesOwn.never rfl (pi_range1 (by rfl) B.range_ (pa_cons (pv 1) pa_nil)) (pg_name (i := 6) nd rfl (by first | exact Or.inl rfl | exact Or.inr rfl)) (pss_cons (ps_set (i := 9) nd rfl (Or.inl rfl) (pe_op op_mod (pe_callTy call_intA (by rfl) B.int_ bo_int (pa_cons (pe_op op_sub (pe_op (op_addK (K := K) rfl) (pv 6) (pv 1)) pe_int) pa_nil)) (pv 1)))
      (pss_one (ps_expr (pe_bmK (K := K) rfl PySem.F.plainAttrs_list PySem.F.slot_list_append PySem.F.type_list_append mt_append (pv 5) (pa_cons (pe_tup (pa_cons (pe_tup (pa_cons pe_str (pa_cons (pe_op (op_addK (K := K) rfl) (pe_op (op_mulB (K := K) rfl) pe_int (pv 9)) pe_int) (pa_cons pe_int pa_nil)))) (pa_cons (pe_tup (pa_cons pe_str (pa_cons (pe_op (op_mulB (K := K) rfl) pe_int (pv 6)) pa_nil))) pa_nil))) pa_nil))))))
      (pss_cons (ps_set (i := 10) nd rfl (Or.inl rfl) (pe_disp (pps_cons pe_str (pe_lc (own := [("name", 11)]) rfl nd (pi_seqK (K := K) rfl (pv 2)) (blkOk_by (N := N__law_circle) (sc := defScope s__law_circle) (by decide +kernel)) (fun _ _ _ _ _ => (pg_name (i := 11) nd rfl (by first | exact Or.inl rfl | exact Or.inr rfl))) (fun _ _ _ _ _ => pts_nil) (fun _ _ _ _ _ => (pe_tup (pa_cons (pv 11) (pa_cons pe_int pa_nil))))) (pps_cons pe_str (pv 3) (pps_cons pe_str (pv 4) pps_nil))) (by rfl) (by rfl) (by simp) (by decide)))
      (pss_one (ps_ret (pe_tup (pa_cons (pv 10) (pa_cons (pe_callTy (call_tupK (K := K) rfl) (by rfl) B.tuple_ bo_tuple (pa_cons (pv 5) pa_nil)) pa_nil)))))))))))))), rfl, ?_⟩
    walk_at "q"
    refine s0.take (by decide) (by decide) (fun t1 H1 ht1 s1 => ?_)
    obtain ⟨m, em, m2, m3⟩ : ∃ m : Nat, (2 : Int) + (t1 : Int) = (m : Int) ∧ 2 ≤ m ∧ m ≤ 3 := ⟨2 + t1, by omega, by omega, by omega⟩
    walk_at "q"
    rw [em]
    refine s1.names (by omega) (fun l1 zs G2 H2 e2 s2 rz lz nz nmz => ?_)
    walk_at "q"
    rename_i lc hlc lr hlr lw hlw
    have s3 := ((s2.open_ (o := .lst []) hlc).open_ (o := .lst []) hlr).open_ (o := .lst []) hlw
    generalize L2.upd (L2.upd (L2.upd H2 lc (.lst [])) lr (.lst [])) lw (.lst []) = H3 at s3 ⊢
    clear s2 s1 s0 hlc hlr hlw
    let ps : List PyData := zs.map fun z => .tuple [.str z, .int 2]
    have hps : ∀ i, i < m → ∃ z, ps[i]? = some (.tuple [.str z, .int (2 : Nat)]) ∧ zs[i]? = some z := fun i hi => by
      have hz : i < zs.length := by omega
      exact ⟨zs[i], by show (zs.map _)[i]? = _; rw [List.getElem?_map, List.getElem?_eq_getElem hz] <;> rfl, List.getElem?_eq_getElem hz⟩
    have lps : ps.length = m := by show (zs.map _).length = m; rw [List.length_map, lz]
    refine q_rng1 m (by omega) (fun i σ' H' => ∃ (z6 z7 z8 : Option V) (vc vr : List V) (cs rs : List PyData) (G' : Hp), σ' = [some (.ref b), some (.int (m : Int)), some (.ref l1), some (.ref lc), some (.ref lr), some (.ref lw), z6, z7, z8, none, none, none] ∧ Ex G2 G' ∧ Bx K b G H G' H' [(lw, .lst []), (lr, .lst vr), (lc, .lst vc)] ∧ Rps K G' vc cs ∧ Rps K G' vr rs ∧ cs.length = i ∧ rs.length = 2 * i ∧ (∀ c ∈ cs, ChN m c) ∧ cs.map (fun c => strOf (atD c 0)) = zs.take i ∧ ∀ r ∈ rs, RuOk ps cs r)
      ⟨none, none, none, [], [], [], [], G2, rfl, Ex.refl _, s3, .nil, .nil, rfl, rfl, by simp, rfl, by simp⟩ ?_ ?_
    · clear s3
      rintro i σ' H' hi ⟨z6, z7, z8, vc, vr, cs, rs, G', rfl, eg, s', rcs, rrs, lcs, lrs, hcs, ncs, hrs⟩
      obtain ⟨nx, enx, hnx, nnx⟩ : ∃ nx : Nat, ((i : Int) + 1) % (m : Int) = (nx : Int) ∧ nx < m ∧ i ≠ nx := by
        refine ⟨(i + 1) % m, by rw [Int.natCast_emod, Int.natCast_add] <;> rfl, Nat.mod_lt _ (by omega), fun h => ?_⟩
        rcases Nat.lt_or_ge (i + 1) m with h1 | h1
        · rw [Nat.mod_eq_of_lt h1] at h
          omega
        · rw [Nat.mod_eq_sub_mod h1, Nat.mod_eq_of_lt (by omega)] at h
          omega
      obtain ⟨z, hpi, hzi⟩ := hps i hi
      obtain ⟨zn, hpn, _⟩ := hps nx hnx
      walk_at "q"
      rename_i pk hpk
      obtain ⟨G4, e4, k4, s4⟩ := s'.made (o := .lst [.str "order", .str "loose", .str "order lossy", .str "loose lossy"]) hpk
      refine s4.take (by decide) (by decide) (fun ik H5 hik s5 => ?_)
      refine q_ixLn (.inl (.inl (s5.ww _ _ k4))) (by omega) hik (fun v hv => ?_)
      obtain ⟨kd, rfl, hkd⟩ : ∃ kd : Str, v = .str kd ∧ kd ∈ (["order", "loose", "order lossy", "loose lossy"] : List Str) := by
        simp only [List.mem_cons, List.mem_nil_iff, or_false] at hv
        rcases hv with rfl | rfl | rfl | rfl
        · exact ⟨_, rfl, by simp⟩
        · exact ⟨_, rfl, by simp⟩
        · exact ⟨_, rfl, by simp⟩
        · exact ⟨_, rfl, by simp⟩
      walk_at "q"
      refine s5.take (by decide) (by decide) (fun tk H6 htk s6 => ?_)
      have htk' : tk < 10 := by omega
      have h6 := s6.at2
      have rz6 := rz.mono (eg.trans e4)
      walk_at "q"
      refine q_ixRL rz6 s6.ww (atI_nat (by rw [List.getElem?_map, hzi] <;> rfl)) (fun un hun => ?_)
      obtain rfl := rp_str hun
      walk_at "q"
      rw [enx]
      rename_i pt hpt
      obtain ⟨G7, e7, k7, s7⟩ := s6.made (o := .tup [.str z, .int (i : Int), .int (nx : Int), .str kd]) hpt
      refine q_append s7.at2 (line_lt (by rw [rcs.len, lcs]; omega)) ?_
      have s8 := s7.put2 (.lst (vc ++ [.ref pt]))
      generalize L2.upd (L2.upd H6 pt (.tup [.str z, .int (i : Int), .int (nx : Int), .str kd])) lc (.lst (vc ++ [.ref pt])) = H8 at s8 ⊢
      have h8 := s8.at1
      clear s7 h6 hpt
      walk_at "q"
      rename_i pa hpa pb hpb
      obtain ⟨G9, e9, k9, s9⟩ := s8.made (o := .tup [.str "send", .int (i : Int), .int (tk : Int)]) hpa
      obtain ⟨Ga, ea, ka, sa⟩ := s9.made (o := .tup [.int (i : Int), .int 1, .ref pa, .int 0]) hpb
      refine q_append sa.at1 (line_lt (by rw [rrs.len, lrs]; omega)) ?_
      have sb := sa.put1 (.lst (vr ++ [.ref pb]))
      generalize L2.upd (L2.upd (L2.upd H8 pa (.tup [.str "send", .int (i : Int), .int (tk : Int)])) pb (.tup [.int (i : Int), .int 1, .ref pa, .int 0])) lr (.lst (vr ++ [.ref pb])) = Hb at sb ⊢
      have hb1 := sb.at1
      clear sa s9 s8 h8 hpa hpb
      walk_at "q"
      rw [enx]
      rename_i pc hpc pd hpd
      obtain ⟨Gc, ec, kc, sc⟩ := sb.made (o := .tup [.str "take", .int (i : Int), .int (tk : Int)]) hpc
      obtain ⟨Gd, ed, kd2, sd⟩ := sc.made (o := .tup [.int (nx : Int), .int 0, .ref pc, .int 1]) hpd
      refine q_append sd.at1 (line_lt (by rw [List.length_append, rrs.len, lrs]; simp only [List.length_cons, List.length_nil]; omega)) ?_
      have se := sd.put1 (.lst ((vr ++ [.ref pb]) ++ [.ref pd]))
      have e7d := e9.trans (ea.trans (ec.trans ed))
      have r1 : Rp K Gd (.ref pt) (.tuple [.str z, .int i, .int nx, .str kd]) := .tup (.inl (.inl (e7d _ _ k7))) (.cons (.str _) (.cons (.int _) (.cons (.int _) (.cons (.str _) .nil))))
      have r2 : Rp K Gd (.ref pb) (.tuple [.int i, .int (1 : Nat), .tuple [.str "send", .int i, .int tk], .int (0 : Nat)]) := .tup (.inl (.inl ((ec.trans ed) _ _ ka))) (.cons (.int _) (.cons (.int _) (.cons (.tup (.inl (.inl ((ea.trans (ec.trans ed)) _ _ k9))) (.cons (.str _) (.cons (.int _) (.cons (.int _) .nil)))) (.cons (.int _) .nil))))
      have r3 : Rp K Gd (.ref pd) (.tuple [.int nx, .int (0 : Nat), .tuple [.str "take", .int i, .int tk], .int (1 : Nat)]) := .tup (.inl (.inl kd2)) (.cons (.int _) (.cons (.int _) (.cons (.tup (.inl (.inl (ed _ _ kc))) (.cons (.str _) (.cons (.int _) (.cons (.int _) .nil)))) (.cons (.int _) .nil))))
      have e3d := e4.trans (e7.trans e7d)
      refine ⟨_, _, _, _, _, cs ++ [.tuple [.str z, .int i, .int nx, .str kd]], (rs ++ [.tuple [.int i, .int (1 : Nat), .tuple [.str "send", .int i, .int tk], .int (0 : Nat)]]) ++ [.tuple [.int nx, .int (0 : Nat), .tuple [.str "take", .int i, .int tk], .int (1 : Nat)]], Gd, rfl, eg.trans e3d, se, (rcs.mono e3d).app (Rps.one r1), ((rrs.mono e3d).app (Rps.one r2)).app (Rps.one r3), by rw [List.length_append, lcs] <;> rfl, by rw [List.length_append, List.length_append, lrs] <;> rfl, fun c hc => ?_, ?_, fun r hr => ?_⟩
      · rcases List.mem_append.mp hc with h | h
        · exact hcs c h
        · exact ⟨z, i, nx, kd, List.mem_singleton.mp h, nmz z (List.mem_of_getElem? hzi), hi, hnx, nnx, hkd⟩
      · rw [List.map_append, ncs, List.take_add_one, hzi]
        rfl
      · have hci : (cs ++ [PyData.tuple [.str z, .int i, .int nx, .str kd]])[i]? = some (.tuple [.str z, .int i, .int nx, .str kd]) := by
          rw [List.getElem?_append_right (by omega), lcs, Nat.sub_self] <;> rfl
        rcases List.mem_append.mp hr with h | h
        · rcases List.mem_append.mp h with h | h
          · exact (hrs r h).more
          · exact ⟨i, 1, 0, _, z, 2, List.mem_singleton.mp h, hpi, by decide, by decide, .inr ⟨i, tk, z, i, nx, kd, hci, htk', .inl ⟨rfl, rfl⟩⟩⟩
        · exact ⟨nx, 0, 1, _, zn, 2, List.mem_singleton.mp h, hpn, by decide, by decide, .inr ⟨i, tk, z, i, nx, kd, hci, htk', .inr ⟨rfl, rfl⟩⟩⟩
    · rintro σ' H' ⟨z6, z7, z8, vc, vr, cs, rs, G', rfl, eg, s', rcs, rrs, lcs, lrs, hcs, ncs, hrs⟩
      obtain ⟨Ga, ea, ka, sa⟩ := (s'.perm (List.reverse_perm _).symm).close
      obtain ⟨Gb, eb, kb, sb⟩ := sa.close
      have rC : Rp K Gb (.ref lc) (.list cs) := .lst (eb _ _ ka) (rcs.mono (ea.trans eb))
      have rR : Rp K Gb (.ref lr) (.list rs) := .lst kb (rrs.mono (ea.trans eb))
      have rzb := rz.mono (eg.trans (ea.trans eb))
      clear sa s' rcs rrs ka kb s3
      walk_at "q"
      refine q_rng1 m (by omega) (fun i σ' H' => ∃ (z6 z9 : Option V) (vw : List V) (T : List (List Deed)) (G' : Hp), σ' = [some (.ref b), some (.int (m : Int)), some (.ref l1), some (.ref lc), some (.ref lr), some (.ref lw), z6, z7, z8, z9, none, none] ∧ Ex Gb G' ∧ Bx K b G H G' H' [(lw, .lst vw)] ∧ Rps K G' vw (T.map fun r => sqD true (r.map (sqd true))) ∧ T.length = i ∧ tot T = 2 * i ∧ ∀ r ∈ T, ∃ i k rest, r = Deed.take i k :: rest) ⟨_, none, [], [], Gb, rfl, Ex.refl _, sb, .nil, rfl, rfl, by simp⟩ ?_ ?_
      · clear sb
        rintro i σ' H' hi ⟨z6, z9, vw, T, G', rfl, eg', s', rT, lT, tT, kT⟩
        obtain ⟨bf, ebf⟩ : ∃ bf : Nat, ((i : Int) + (m : Int) - 1) % (m : Int) = (bf : Int) := Int.eq_ofNat_of_zero_le (Int.emod_nonneg _ (by omega))
        have h' := s'.at0
        walk_at "q"
        rw [ebf]
        rename_i pa hpa pb hpb pc hpc
        rw [ebf] at hpb hpc
        obtain ⟨Gc, ec, kc, sc⟩ := s'.made (o := .tup [.str "take", .int (2 * (bf : Int) + 1), .int 0]) hpa
        obtain ⟨Gd, ed, kd, sd⟩ := sc.made (o := .tup [.str "act", .int (2 * (i : Int))]) hpb
        obtain ⟨Ge, ee, ke, se⟩ := sd.made (o := .tup [.ref pa, .ref pb]) hpc
        refine q_append se.at0 (line_lt (by rw [rT.len, List.length_map]; omega)) ?_
        have e1 : 2 * (bf : Int) + 1 = ((2 * bf + 1 : Nat) : Int) := by omega
        have e2' : 2 * (i : Int) = ((2 * i : Nat) : Int) := by omega
        have rr : Rp K Ge (.ref pc) (sqD true ([Deed.take (2 * bf + 1) 0, .act (2 * i)].map (sqd true))) := by
          refine .tup (.inl (.inl ke)) (.cons (.tup (.inl (.inl ((ed.trans ee) _ _ kc))) (.cons (.str _) (.cons ?_ (.cons (.int 0) .nil)))) (.cons (.tup (.inl (.inl (ee _ _ kd))) (.cons (.str _) (.cons ?_ .nil))) .nil))
          · rw [e1]
            exact .int _
          · rw [e2']
            exact .int _
        refine ⟨_, _, _, T ++ [[.take (2 * bf + 1) 0, .act (2 * i)]], Ge, rfl, eg'.trans (ec.trans (ed.trans ee)), se.put0 _, ?_, by rw [List.length_append, lT] <;> rfl, by rw [tot_app, tT] <;> rfl, fun r hr => ?_⟩
        · rw [List.map_append]
          exact (rT.mono (ec.trans (ed.trans ee))).app (Rps.one rr)
        · rcases List.mem_append.mp hr with h | h
          · exact kT r h
          · exact ⟨_, _, _, List.mem_singleton.mp h⟩
      · clear sb
        rintro σ' H' ⟨z6, z9, vw, T, G', rfl, eg', s', rT, lT, tT, kT⟩
        have rz' := rzb.mono eg'
        have rC' := rC.mono eg'
        have rR' := rR.mono eg'
        walk_at "q"
        refine q_disp (fun n hn => ?_)
        have s6 := s'.open_ (o := .dK []) hn
        generalize L2.upd H' n (.dK []) = H6 at s6 ⊢
        walk_at "q"
        refine q_lcL ?_
        walk_at "q"
        refine q_fmL (h := PyData.str) (f := fun z => some (.tuple [.str z, .int 2])) rz' s6.ww (by omega) (fun i z u G7 H7 hx g7 ru C N yes no => ?_) (fun G7 H7 D7 g7 hD7 r7 => ?_)
        · obtain rfl := rp_str ru
          walk_at "q"
          refine ⟨rfl, ?_⟩
          walk_at "q"
          rename_i p8 hp8
          exact yes _ _ _ _ rfl (Gro.new g7.w hp8) (.tup (.inl (.inl upd_same)) (.cons (.str _) (.cons (.int _) .nil)))
        · rw [fm_map] at r7
          have s7 := s6.gro g7
          walk_at "q"
          refine ⟨s7.at0, [(.inr "processes", .ref D7), (.inr "channels", .ref lc), (.inr "rules", .ref lr)], rfl, (show (3 : Nat) ≤ 15 by decide), ?_⟩
          obtain ⟨G8, e8, k8, s8⟩ := (s7.put0 (.dK [(.inr "processes", .ref D7), (.inr "channels", .ref lc), (.inr "rules", .ref lr)])).close
          have h8 := s8.at0
          have pk : ∀ d ∈ ps, PrN d := fun d hd => by
            obtain ⟨z, hz, rfl⟩ := List.mem_map.mp hd
            exact ⟨z, 2, rfl, nmz z hz, by decide, by decide⟩
          have pn : ps.map (fun c => strOf (atD c 0)) = zs := by
            show (zs.map _).map _ = zs
            rw [List.map_map]
            exact List.map_id zs
          have ln : LNet ps cs rs := ⟨by omega, by omega, pk, by rw [pn]; exact nz, by omega, by rw [lps]; exact hcs, by rw [ncs, ← lz, List.take_length]; exact nz, by omega, hrs⟩
          have eC : (mnOf ps cs rs).C.map Chn.d = cs := congrArg NetD.c ln.mnN
          have eR : (mnOf ps cs rs).R.map Rul.d = rs := congrArg NetD.r ln.mnN
          have hNL : NetL K G8 n (mnOf ps cs rs) := ⟨D7, lc, lr, k8, r7.mono e8, by rw [eC]; exact rC'.mono (g7.g.trans e8), by rw [eR]; exact rR'.mono (g7.g.trans e8)⟩
          walk_at "q"
          refine q_tupL h8 (fun pt hpt => ?_)
          obtain ⟨G9, e9, k9, s9⟩ := s8.made (o := .tup vw) hpt
          obtain ⟨Ga, ea, ka, sa⟩ := s9.close
          walk_at "q"
          rename_i pz hpz
          obtain ⟨Gb', eb', kb', sb'⟩ := sa.made (o := .tup [.ref n, .ref pt]) hpz
          exact q pz n (.ref pt) ps cs rs T Gb' _ sb' kb' (hNL.mono (e9.trans (ea.trans eb'))) ln (.tup (.inl (.inl ((ea.trans eb') _ _ k9))) (rT.mono (g7.g.trans (e8.trans (e9.trans (ea.trans eb')))))) (by omega) (by omega) (by omega) kT
end
end Cw

set_option maxHeartbeats 4000000
namespace Cw
open PySem PySem.Spec PyProof.Rows L2
section
variable {P : Program} {w : World} {K : PySem.W.Frag} {mg : Str → Option Value} {base : Heap}
abbrev s__law_long : Stmt := topS 80
abbrev N__law_long : List Str := ["pool", "names", "rules", "net", "p", "name", "k"]
theorem sc__law_long : FnScope N__law_long ["pool"] (defScope s__law_long) := ⟨rfl, rfl, rfl, by decide +kernel, rfl, by decide +kernel, by decide +kernel⟩
theorem c_long {f : Addr} {fd : FuncData} (F : FnP K "_law_long" s__law_long f fd) (hm : mg "_law_long" = some (.ref f)) (B : Blt mg) (C__law_take : Cal P w K mg base 2 "_law_take" ["pool", "many"] (sp_take K)) (C__law_names : Cal P w K mg base 3 "_law_names" ["pool", "many"] (sp_dnames K)) : Cal P w K mg base 4 "_law_long" ["pool"] (sp_long K) := by
  refine cal_of F hm sc__law_long (fun _ _ _ _ _ _ _ us hl => match us, hl with | [_], _ => rfl) (fun vs H Q E h => ?_) (fun cdv A outer s H vs Q E hr h => ?_)
  · obtain ⟨_, _, _, rfl, _⟩ := h
    rfl
  · obtain ⟨G, b, kvs, rfl, eG, gb, hb, hB, q⟩ := h
    have nd := sc__law_long.nd
    have s0 := Bx.start eG gb hb hB
    refine ⟨_, [some _, none, none, none, none, none, none], ((pss_cons (ps_set (i := 1) nd rfl (Or.inr rfl) (pe_callC C__law_names (hr.mono (by omega)) (by rfl) (pa_cons (pv 0) (pa_cons (pe_op (op_addK (K := K) rfl) pe_int (pe_callC C__law_take (hr.mono (by omega)) (by rfl) (pa_cons (pv 0) (pa_cons pe_int pa_nil)))) pa_nil))))
      (pss_cons (ps_setLc (i := 2) (own := [("p", 4)]) rfl nd rfl rfl (sw_true rfl rfl rfl (by decide +kernel)) (pi_range1 (by rfl) B.range_ (pa_cons (pe_callB (call_lenK (K := K) rfl) (by rfl) B.len_ bo_len (pa_cons (pv 1) pa_nil)) pa_nil)) (blkOk_by (N := N__law_long) (sc := defScope s__law_long) (by decide +kernel)) (fun _ _ _ _ _ => (pg_name (i := 4) nd rfl (by first | exact Or.inl rfl | exact Or.inr rfl))) (fun _ _ _ _ _ => pts_nil) (fun _ _ _ _ _ => (pe_tup (pa_cons (pv 4) (pa_cons pe_int (pa_cons (pe_tup (pa_cons pe_str pa_nil)) (pa_cons pe_int pa_nil)))))))
      (pss_cons (ps_set (i := 3) nd rfl (Or.inl rfl) (pe_disp (pps_cons pe_str (pe_lc (own := [("name", 5)]) rfl nd (pi_seqK (K := K) rfl (pv 1)) (blkOk_by (N := N__law_long) (sc := defScope s__law_long) (by decide +kernel)) (fun _ _ _ _ _ => (pg_name (i := 5) nd rfl (by first | exact Or.inl rfl | exact Or.inr rfl))) (fun _ _ _ _ _ => pts_nil) (fun _ _ _ _ _ => (pe_tup (pa_cons (pv 5) (pa_cons pe_int pa_nil))))) (pps_cons pe_str (pe_lst pa_nil) (pps_cons pe_str (pv 2) pps_nil))) (by rfl) (by rfl) (by simp) (by decide)))
      (pss_one (ps_ret (pe_tup (pa_cons (pv 3) (pa_cons (pe_lc (own := [("k", 6)]) rfl nd (pi_range1 (by rfl) B.range_ (pa_cons pe_int pa_nil)) (blkOk_by (N := N__law_long) (sc := defScope s__law_long) (by decide +kernel)) (fun _ _ _ _ _ => (pg_name (i := 6) nd rfl (by first | exact Or.inl rfl | exact Or.inr rfl))) (fun _ _ _ _ _ => pts_nil) (fun _ _ _ _ _ => (pe_tup (pa_cons pe_str (pa_cons (pe_callC C__law_take (hr.mono (by omega)) (by rfl) (pa_cons (pv 0) (pa_cons (pe_callB (call_lenK (K := K) rfl) (by rfl) B.len_ bo_len (pa_cons (pv 1) pa_nil)) pa_nil))) pa_nil))))) pa_nil))))))))), rfl, ?_⟩
    walk_at "q"
    refine s0.take (by decide) (by decide) (fun t1 H1 ht1 s1 => ?_)
    obtain ⟨m, em, m1, m3⟩ : ∃ m : Nat, (1 : Int) + (t1 : Int) = (m : Int) ∧ 1 ≤ m ∧ m ≤ 3 := ⟨1 + t1, by omega, by omega, by omega⟩
    walk_at "q"
    rw [em]
    refine s1.names (by omega) (fun l1 zs G2 H2 e2 s2 rz lz nz nmz => ?_)
    have w2 := s2.ww
    walk_at "q"
    rw [List.length_map, lz]
    refine s2.lcR (fun i d => d = .tuple [.int (i : Int), .int 0, .tuple [.str "do"], .int 0]) (by omega) (fun i G3 H3 cells' hi e3 s3 CC N yes => ?_) (fun D es G3 H3 e3 s3 r3 les hes => ?_)
    · walk_at "q"
      refine ⟨rfl, ?_⟩
      walk_at "q"
      rename_i pa hpa pb hpb
      obtain ⟨G4, e4, k4, s4⟩ := s3.made (o := .tup [.str "do"]) hpa
      obtain ⟨G5, e5, k5, s5⟩ := s4.made (o := .tup [.int (i : Int), .int 0, .ref pa, .int 0]) hpb
      exact yes _ _ G5 _ (e4.trans e5) s5 (.tup (.inl (.inl k5)) (.cons (.int _) (.cons (.int _) (.cons (.tup (.inl (.inl (e5 _ _ k4))) (.cons (.str _) .nil)) (.cons (.int _) .nil))))) rfl
    · have ees : es = longRs m := by
        apply List.ext_getElem?
        intro i
        unfold longRs
        rw [List.getElem?_map]
        by_cases hi : i < m
        · have hi2 : i < es.length := by omega
          have h := hes i _ (List.getElem?_eq_getElem hi2)
          rw [List.getElem?_range hi, List.getElem?_eq_getElem hi2, h] <;> rfl
        · rw [List.getElem?_eq_none (by omega), List.getElem?_eq_none (by rw [List.length_range]; omega)] <;> rfl
      subst ees
      have rz3 := rz.mono e3
      clear s2 s1 s0 w2 rz
      walk_at "q"
      refine q_disp (fun n hn => ?_)
      have s4 := s3.open_ (o := .dK []) hn
      generalize L2.upd H3 n (.dK []) = H4 at s4 ⊢
      walk_at "q"
      refine q_lcL ?_
      walk_at "q"
      refine q_fmL (h := PyData.str) (f := fun z => some (.tuple [.str z, .int 1])) rz3 s4.ww (by omega) (fun i z u G7 H7 hx g7 ru CC N yes no => ?_) (fun G7 H7 D7 g7 hD7 r7 => ?_)
      · obtain rfl := rp_str ru
        walk_at "q"
        refine ⟨rfl, ?_⟩
        walk_at "q"
        rename_i p8 hp8
        exact yes _ _ _ _ rfl (Gro.new g7.w hp8) (.tup (.inl (.inl upd_same)) (.cons (.str _) (.cons (.int _) .nil)))
      · rw [fm_map] at r7
        have s7 := s4.gro g7
        walk_at "q"
        rename_i pl hpl
        obtain ⟨G8, e8, k8, s8⟩ := s7.made (o := .lst []) hpl
        refine ⟨s8.at0, [(.inr "processes", .ref D7), (.inr "channels", .ref pl), (.inr "rules", .ref D)], rfl, (show (3 : Nat) ≤ 15 by decide), ?_⟩
        obtain ⟨G9, e9, k9, s9⟩ := (s8.put0 (.dK [(.inr "processes", .ref D7), (.inr "channels", .ref pl), (.inr "rules", .ref D)])).close
        have ln : LNet (zs.map fun z => .tuple [.str z, .int 1]) [] (longRs m) := by
          rw [← lz]
          exact long_lnet (by omega) (by omega) nz nmz
        have eR : (mnOf (zs.map fun z => .tuple [.str z, .int 1]) [] (longRs m)).R.map Rul.d = longRs m := congrArg NetD.r ln.mnN
        have hNL : NetL K G9 n (mnOf (zs.map fun z => .tuple [.str z, .int 1]) [] (longRs m)) := ⟨D7, pl, D, k9, r7.mono (e8.trans e9), .lst (e9 _ _ k8) .nil, by rw [eR]; exact r3.mono (g7.g.trans (e8.trans e9))⟩
        have rz9 := rz3.mono (g7.g.trans (e8.trans e9))
        walk_at "q"
        refine s9.lcR (n := 60) (fun i d => ∃ p, p < m ∧ d = (Deed.act p).d) (by decide) (fun i Ga Ha cells' hi ea sa CC N yes => ?_) (fun De ds Ga Ha ea sa ra lds hds => ?_)
        · have rza := rz9.mono ea
          have wa := sa.ww
          walk_at "q"
          refine ⟨rfl, ?_⟩
          walk_at "q"
          rw [List.length_map, lz]
          refine sa.take (by omega) (by omega) (fun p Hb hp sb => ?_)
          walk_at "q"
          rename_i pc hpc
          obtain ⟨Gc, ec, kc, sc⟩ := sb.made (o := .tup [.str "act", .int (p : Int)]) hpc
          exact yes _ (Deed.act p).d Gc _ ec sc (.tup (.inl (.inl kc)) (.cons (.str _) (.cons (.int _) .nil))) ⟨p, by omega, rfl⟩
        · obtain ⟨Ds, rfl, hacts⟩ := acts_of (m := m) (es := ds) fun d hd => by
            obtain ⟨i, hi, rfl⟩ := List.getElem_of_mem hd
            exact hds i _ (List.getElem?_eq_getElem hi)
          rw [List.length_map] at lds
          walk_at "q"
          rename_i pz hpz
          obtain ⟨Gb', eb', kb', sb'⟩ := sa.made (o := .tup [.ref n, .ref De]) hpz
          have lps : (zs.map fun z => PyData.tuple [.str z, .int 1]).length = m := by rw [List.length_map, lz]
          exact q pz n De (zs.map fun z => .tuple [.str z, .int 1]) Ds Gb' _ sb' kb' (by rw [lps]; exact hNL.mono (ea.trans eb')) (by rw [lps]; exact ln) (ra.mono eb') lds (by rw [lps]; exact hacts)
abbrev s__law_sixty : Stmt := topS 81
abbrev N__law_sixty : List Str := ["pool", "net", "deeds", "made", "more"]
theorem sc__law_sixty : FnScope N__law_sixty ["pool"] (defScope s__law_sixty) := ⟨rfl, rfl, rfl, by decide +kernel, rfl, by decide +kernel, by decide +kernel⟩
theorem c_sixty {C f : Addr} {fd : FuncData} (F : FnP K "_law_sixty" s__law_sixty f fd) (hm : mg "_law_sixty" = some (.ref f)) (B : Blt mg) (C__law_long : Cal P w K mg base 4 "_law_long" ["pool"] (sp_long K)) (C__law_made : Cal P w K mg base 8 "_law_made" ["pool", "net"] (sp_made K C)) (C__law_is : Cal P w K mg base 10 "_law_is" ["made", "told", "due"] (sp_is8 K C)) (C__law_history : Cal P w K mg base 2 "_law_history" ["net", "deeds"] (sp_lhist K)) (C__law_same : Cal P w K mg base 8 "_law_same" ["actual", "due"] (sp_same K 7)) (C__law_asked : Cal P w K mg base 10 "_law_asked" ["made", "deeds"] (sp_asked8 K C)) : Cal P w K mg base 11 "_law_sixty" ["pool"] (sp_sixty K) := by
  refine cal_of F hm sc__law_sixty (fun _ _ _ _ _ _ _ us hl => match us, hl with | [_], _ => rfl) (fun vs H Q E h => ?_) (fun cdv A outer s H vs Q E hr h => ?_)
  · obtain ⟨_, _, _, rfl, _⟩ := h
    rfl
  · obtain ⟨G, b, kvs, rfl, eG, gb, hb, hB, q⟩ := h
    have nd := sc__law_sixty.nd
    refine ⟨_, [some _, none, none, none, none], ((pss_cons (ps_asg (pe_callC C__law_long (hr.mono (by omega)) (by rfl) (pa_cons (pv 0) pa_nil)) (pg_seqK (K := K) (n := 2) rfl rfl (pgs_cons (pg_name (i := 1) nd rfl (by first | exact Or.inl rfl | exact Or.inr rfl)) (pgs_cons (pg_name (i := 2) nd rfl (by first | exact Or.inl rfl | exact Or.inr rfl)) pgs_nil))))
      (pss_cons (ps_set (i := 3) nd rfl (Or.inl rfl) (pe_callC C__law_made (hr.mono (by omega)) (by rfl) (pa_cons (pv 0) (pa_cons (pv 1) pa_nil))))
      (pss_cons (ps_set (i := 4) nd rfl (Or.inl rfl) (pe_op (op_addK (K := K) rfl) (pv 2) (pe_slice (sl_anyK (K := K) rfl) (pv 2) po_none (po_some pe_int))))
      (pss_cons (ps_if (PW.pt (pw_or (pt_not (pt_val (pe_callC C__law_is (hr.mono (by omega)) (by rfl) (pa_cons (pv 3) (pa_cons (pe_callC C__law_history (hr.mono (by omega)) (by rfl) (pa_cons (pv 1) (pa_cons (pv 2) pa_nil))) (pa_cons pe_bl pa_nil)))))) (pw_or1 (pt_not (pt_val (pe_callC C__law_is (hr.mono (by omega)) (by rfl) (pa_cons (pv 3) (pa_cons (pe_callC C__law_history (hr.mono (by omega)) (by rfl) (pa_cons (pv 1) (pa_cons (pv 4) pa_nil))) (pa_cons pe_bl pa_nil))))))))) (pss_one (ps_ret pe_bl)) pss_nil)
      (pss_cons (ps_if (pt_not (pt_val (pe_callC C__law_same (hr.mono (by omega)) (by rfl) (pa_cons (pe_callC C__law_asked (hr.mono (by omega)) (by rfl) (pa_cons (pv 3) (pa_cons (pv 2) pa_nil))) (pa_cons (pe_tup (pa_cons pe_str (pa_cons (pe_callC C__law_history (hr.mono (by omega)) (by rfl) (pa_cons (pv 1) (pa_cons (pv 2) pa_nil))) pa_nil))) pa_nil))))) (pss_one (ps_ret pe_bl)) pss_nil)
      (pss_one (ps_ret (pe_callC C__law_same (hr.mono (by omega)) (by rfl) (pa_cons (pe_callC C__law_asked (hr.mono (by omega)) (by rfl) (pa_cons (pv 3) (pa_cons (pv 4) pa_nil))) (pa_cons (pe_tup (pa_cons pe_str (pa_cons pe_int pa_nil))) pa_nil))))))))))), rfl, ?_⟩
    walk_at "q"
    refine ⟨G, b, kvs, rfl, eG, gb, hb, hB, fun p n dl ps Ds G2 H2 s2 kp hN ln rD l60 acts => ?_⟩
    refine .inl ⟨p, [.ref n, .ref dl], rfl, .inl (.inl (s2.ww _ _ kp)), rfl, ?_⟩
    walk_at "q"
    obtain ⟨kv, hkv, hBv⟩ := s2.pool
    refine ⟨G2, b, n, kv, ps, [], longRs ps.length, rfl, s2.ww, s2.gb, hkv, hBv, hN, ln, fun a kv2 G3 H3 sd hB3 hA => ?_⟩
    have s3 := s2.grob sd hB3
    have mn := ln.mnet
    have nok : NOk (mnOf ps [] (longRs ps.length)).N := by rw [ln.mnN]; exact ln.nok
    have hA3 : NetAt K C G3 a (mnOf ps [] (longRs ps.length)).N := by rw [ln.mnN]; exact hA
    have hN3 := hN.mono sd.g
    have rD3 := rD.mono sd.g
    have hR : RunM (mnOf ps [] (longRs ps.length)) (startM (mnOf ps [] (longRs ps.length))) Ds := long_run acts rfl
    have hR2 : RunM (mnOf ps [] (longRs ps.length)) (startM (mnOf ps [] (longRs ps.length))) (Ds ++ Ds.take 1) := long_run (fun D hD => by
      rcases List.mem_append.mp hD with h | h
      · exact acts D h
      · exact acts D (List.mem_of_mem_take h)) rfl
    have l61 : (Ds ++ Ds.take 1).length = 61 := by rw [List.length_append, List.length_take]; omega
    generalize mnOf ps [] (longRs ps.length) = M at mn nok hA3 hN3 hR hR2
    have lp := mn.ok.lp
    clear hA hN rD s2 ln
    walk_at "q"
    refine q_slTo (b := false) (k := 1) rD3 s3.ww (fun G4 H4 p4 g4 r4 => ?_)
    have s4 := s3.gro g4
    walk_at "q"
    refine q_catLL (rD3.mono g4.g) r4 s4.ww (by rw [List.length_take, List.length_map]; omega) (fun G5 H5 p5 g5 r5 => ?_)
    have s5 := s4.gro g5
    have e35 := g4.g.trans g5.g
    have hN5 := hN3.mono e35
    have hA5 := hA3.mono e35
    have rD5 := rD3.mono e35
    have r5' : Rp K G5 (.ref p5) (.list ((Ds ++ Ds.take 1).map Deed.d)) := by
      rw [List.map_append, List.map_take]
      exact r5
    clear s4 s3 r4 r5 hN3 hA3 rD3
    walk_at "q"
    refine ⟨G5, n, M, _, false, Ds, rfl, s5.ww, hN5, mn, rD5, by omega, fun D hD => (hR.dv D hD).1, fun G6 H6 p6 g6 r6 => ?_⟩
    have s6 := s5.gro g6
    walk_at "q"
    refine ⟨G6, a, M, .ref p6, true, rfl, s6.ww, hA5.mono g6.g, mn.ok, nok, .inl ⟨true, true, true, histM M Ds, r6, hist_sm mn (by omega) (by omega), run_isH mn hR (by omega)⟩, fun H7 e7 => ?_⟩
    have s7 := s6.up e7
    walk_at "q"
    refine ⟨G6, n, M, _, false, Ds ++ Ds.take 1, rfl, s7.ww, hN5.mono g6.g, mn, r5'.mono g6.g, by omega, fun D hD => (hR2.dv D hD).1, fun G8 H8 p8 g8 r8 => ?_⟩
    have s8 := s7.gro g8
    have e58 := g6.g.trans g8.g
    have t61 : tot (histM M (Ds ++ Ds.take 1)) = 61 := by rw [tot_hist fun D hD => own_lt mn (hR2.dv D hD).1, l61]
    walk_at "q"
    refine ⟨G8, a, M, .ref p8, false, rfl, s8.ww, hA5.mono e58, mn.ok, nok, .inl ⟨true, true, true, histM M (Ds ++ Ds.take 1), r8, hist_sm mn (by omega) (by omega), long_isH (by omega)⟩, fun H9 e9 => ?_⟩
    have s9 := s8.up e9
    walk_at "q"
    refine ⟨G8, a, M, _, _, rfl, s9.ww, hA5.mono e58, mn, nok, rD5.mono e58, shp_run (b := true) (c := false) (by omega), .inl ⟨Ds, ⟨true, false, rfl, hR, by omega⟩, fun Ga Ha pa ga ra => ?_⟩⟩
    have sa := s9.gro ga
    have e5a := e58.trans ga.g
    walk_at "q"
    refine ⟨Ga, n, M, _, false, Ds, rfl, sa.ww, hN5.mono e5a, mn, rD5.mono e5a, by omega, fun D hD => (hR.dv D hD).1, fun Gb Hb pb gb' rb => ?_⟩
    have sb := sa.gro gb'
    walk_at "q"
    rename_i pc hpc
    obtain ⟨Gc, ec, kc, sc⟩ := sb.made (o := .tup [.str "told", .ref pb]) hpc
    have e5c := e5a.trans (gb'.g.trans ec)
    have hsm : SmT (histM M Ds) := hist_sm mn (by omega) (by omega)
    refine ⟨Gc, _, _, _, rfl, sc.ww, ra.mono (gb'.g.trans ec), .tup (.inl (.inl kc)) (.cons (.str _) (.cons (rb.mono ec) .nil)), tn_le (n := 5) (tn_told (n := 3) (tn_rows (n := 0) hsm)) (by decide), fun Hd ed => ?_⟩
    have sd2 := sc.up ed
    walk_at "q"
    refine ⟨Gc, a, M, _, _, rfl, sd2.ww, hA5.mono e5c, mn, nok, r5'.mono e5c, shp_run (b := true) (c := false) (by omega), .inr ⟨60, ⟨_, .inl rfl, by rw [List.length_map]; omega, goes_run (b := true) hR2 (Nat.le_refl 60), fun z => absurd z.1 (by decide)⟩, fun Ge He pe ge re => ?_⟩⟩
    have se := sd2.gro ge
    walk_at "q"
    rename_i pf hpf
    obtain ⟨Gf, ef, kf, sf⟩ := se.made (o := .tup [.str "step", .int 60]) hpf
    refine ⟨Gf, _, _, _, rfl, sf.ww, re.mono ef, .tup (.inl (.inl kf)) (.cons (.str _) (.cons (.int _) .nil)), tn_le (n := 2) (tn_told (n := 0) True.intro) (by decide), fun Hg eg => ?_⟩
    exact q _
end
end Cw

set_option maxHeartbeats 4000000
namespace Cw
open PySem PySem.Spec PyProof.Rows L2
section
variable {P : Program} {w : World} {K : PySem.W.Frag} {mg : Str → Option Value} {base : Heap}
abbrev s_law : Stmt := topS 82
abbrev N_law : List Str := ["script", "pool", "net", "made", "deeds", "worlds", "told", "handed", "at", "wrong", "turn", "spoilt", "odd", "ring", "rows", "deed", "row"]
theorem sc_law : FnScope N_law ["script"] (defScope s_law) := ⟨rfl, rfl, rfl, by decide +kernel, rfl, by decide +kernel, by decide +kernel⟩
def sp_law (K : PySem.W.Frag) : Sp := fun vs H Q _ => ∃ (s : Addr) (ns : List Int), vs = [.ref s] ∧ SqL K H s (ns.map V.int) ∧ ns.length ≤ 1000 ∧ ∀ H', Q (.bl true) H'
theorem c_law {C f : Addr} {fd : FuncData} (F : FnP K "law" s_law f fd) (B : Blt mg) (C__law_pool : Cal P w K mg base 1 "_law_pool" ["script"] (sp_pool K)) (C__law_take : Cal P w K mg base 2 "_law_take" ["pool", "many"] (sp_take K)) (C__law_net : Cal P w K mg base 4 "_law_net" ["pool"] (sp_pnet K)) (C__law_made : Cal P w K mg base 8 "_law_made" ["pool", "net"] (sp_made K C)) (C__law_run : Cal P w K mg base 3 "_law_run" ["pool", "net", "most"] (sp_prun K)) (C__law_history : Cal P w K mg base 2 "_law_history" ["net", "deeds"] (sp_lhist K)) (C__law_asked : Cal P w K mg base 10 "_law_asked" ["made", "deeds"] (sp_asked8 K C)) (C__law_is : Cal P w K mg base 10 "_law_is" ["made", "told", "due"] (sp_is8 K C)) (C__law_walked : Cal P w K mg base 3 "_law_walked" ["net", "told"] (sp_walked K)) (C__law_same : Cal P w K mg base 8 "_law_same" ["actual", "due"] (sp_same K 7)) (C__law_near : Cal P w K mg base 3 "_law_near" ["pool", "net", "world"] (sp_near K)) (C__law_spoilt : Cal P w K mg base 4 "_law_spoilt" ["pool", "net", "told"] (sp_spoilt K)) (C__law_circle : Cal P w K mg base 4 "_law_circle" ["pool"] (sp_circle8 K)) (C__law_sixty : Cal P w K mg base 11 "_law_sixty" ["pool"] (sp_sixty K)) : FnOk P w K mg base CX0 12 f fd ["script"] (sp_law K) := by
  refine fnok_of F sc_law (fun vs H Q E h => ?_) (fun cdv A outer s H vs Q E hr h => ?_)
  · obtain ⟨_, _, rfl, _⟩ := h
    rfl
  · obtain ⟨sc, ns, rfl, hS, hl, q⟩ := h
    have nd := sc_law.nd
    refine ⟨_, [some _, none, none, none, none, none, none, none, none, none, none, none, none, none, none, none, none], ((pss_cons (ps_set (i := 1) nd rfl (Or.inl rfl) (pe_callC C__law_pool (hr.mono (by omega)) (by rfl) (pa_cons (pv 0) pa_nil)))
      (pss_cons (ps_set (i := 2) nd rfl (Or.inl rfl) (pe_callC C__law_net (hr.mono (by omega)) (by rfl) (pa_cons (pv 1) pa_nil)))
      (pss_cons (ps_set (i := 3) nd rfl (Or.inl rfl) (pe_callC C__law_made (hr.mono (by omega)) (by rfl) (pa_cons (pv 1) (pa_cons (pv 2) pa_nil))))
      (pss_cons (ps_asg (pe_callC C__law_run (hr.mono (by omega)) (by rfl) (pa_cons (pv 1) (pa_cons (pv 2) (pa_cons pe_int pa_nil)))) (pg_seqK (K := K) (n := 2) rfl rfl (pgs_cons (pg_name (i := 4) nd rfl (by first | exact Or.inl rfl | exact Or.inr rfl)) (pgs_cons (pg_name (i := 5) nd rfl (by first | exact Or.inl rfl | exact Or.inr rfl)) pgs_nil))))
      (pss_cons (ps_set (i := 6) nd rfl (Or.inl rfl) (pe_callC C__law_history (hr.mono (by omega)) (by rfl) (pa_cons (pv 2) (pa_cons (pv 4) pa_nil))))
      (pss_cons (ps_set (i := 7) nd rfl (Or.inl rfl) (pe_ix (ix_seqK (K := K) rfl) (pe_lst (pa_cons (pe_callTy (call_listK (K := K) rfl) (by rfl) B.list_ bo_list (pa_cons (pv 4) pa_nil)) (pa_cons (pe_callTy (call_tupK (K := K) rfl) (by rfl) B.tuple_ bo_tuple (pa_cons (pv 4) pa_nil)) pa_nil))) (pe_callC C__law_take (hr.mono (by omega)) (by rfl) (pa_cons (pv 1) (pa_cons pe_int pa_nil))) (fun _ _ => rfl)))
      (pss_cons (ps_if (PW.pt (pw_or (pt_not (pt_val (pe_callC C__law_same (hr.mono (by omega)) (by rfl) (pa_cons (pe_callC C__law_asked (hr.mono (by omega)) (by rfl) (pa_cons (pv 3) (pa_cons (pv 7) pa_nil))) (pa_cons (pe_tup (pa_cons pe_str (pa_cons (pv 6) pa_nil))) pa_nil))))) (pw_or1 (pt_cmpR (op_neK (K := K) rfl (hu64 hr)) (pe_callTy (call_listK (K := K) rfl) (by rfl) B.list_ bo_list (pa_cons (pv 7) pa_nil)) (pv 4) (nomark _))))) (pss_one (ps_ret pe_bl)) pss_nil)
      (pss_cons (ps_if (pt_not (pt_val (pe_callC C__law_same (hr.mono (by omega)) (by rfl) (pa_cons (pe_callC C__law_asked (hr.mono (by omega)) (by rfl) (pa_cons (pv 3) (pa_cons (pe_lc (own := [("deed", 15)]) rfl nd (pi_seqK (K := K) rfl (pv 4)) (blkOk_by (N := N_law) (sc := defScope s_law) (by decide +kernel)) (fun _ _ _ _ _ => (pg_name (i := 15) nd rfl (by first | exact Or.inl rfl | exact Or.inr rfl))) (fun _ _ _ _ _ => pts_nil) (fun _ _ _ _ _ => (pe_callTy (call_listK (K := K) rfl) (by rfl) B.list_ bo_list (pa_cons (pv 15) pa_nil)))) pa_nil))) (pa_cons (pe_tup (pa_cons pe_str (pa_cons (pv 6) pa_nil))) pa_nil))))) (pss_one (ps_ret pe_bl)) pss_nil)
      (pss_cons (ps_set (i := 8) nd rfl (Or.inl rfl) (pe_callC C__law_take (hr.mono (by omega)) (by rfl) (pa_cons (pv 1) (pa_cons (pe_op (op_addK (K := K) rfl) (pe_callB (call_lenK (K := K) rfl) (by rfl) B.len_ bo_len (pa_cons (pv 4) pa_nil)) pe_int) pa_nil))))
      (pss_cons (ps_set (i := 9) nd rfl (Or.inl rfl) (pe_op (op_addK (K := K) rfl) (pe_op (op_addK (K := K) rfl) (pe_slice (sl_anyK (K := K) rfl) (pv 4) po_none (po_some (pv 8))) (pe_lst (pa_cons (pe_callC C__law_near (hr.mono (by omega)) (by rfl) (pa_cons (pv 1) (pa_cons (pv 2) (pa_cons (pe_ix (ix_seqK (K := K) rfl) (pv 5) (pv 8) (fun _ _ => rfl)) pa_nil)))) pa_nil))) (pe_slice (sl_anyK (K := K) rfl) (pv 4) (po_some (pv 8)) po_none)))
      (pss_cons (ps_if (pt_not (pt_val (pe_callC C__law_same (hr.mono (by omega)) (by rfl) (pa_cons (pe_callC C__law_asked (hr.mono (by omega)) (by rfl) (pa_cons (pv 3) (pa_cons (pv 9) pa_nil))) (pa_cons (pe_tup (pa_cons pe_str (pa_cons (pv 8) pa_nil))) pa_nil))))) (pss_one (ps_ret pe_bl)) pss_nil)
      (pss_cons (ps_if (PW.pt (pw_or (pt_not (pt_val (pe_callC C__law_is (hr.mono (by omega)) (by rfl) (pa_cons (pv 3) (pa_cons (pv 6) (pa_cons pe_bl pa_nil)))))) (pw_or1 (pt_not (pt_val (pe_callC C__law_is (hr.mono (by omega)) (by rfl) (pa_cons (pv 3) (pa_cons (pe_lc (own := [("row", 16)]) rfl nd (pi_seqK (K := K) rfl (pv 6)) (blkOk_by (N := N_law) (sc := defScope s_law) (by decide +kernel)) (fun _ _ _ _ _ => (pg_name (i := 16) nd rfl (by first | exact Or.inl rfl | exact Or.inr rfl))) (fun _ _ _ _ _ => pts_nil) (fun _ _ _ _ _ => (pe_lc (own := [("deed", 15)]) rfl nd (pi_seqK (K := K) rfl (pv 16)) (blkOk_by (by kernel_rfl)) (fun _ _ _ _ _ => (pg_name (i := 15) nd rfl (by first | exact Or.inl rfl | exact Or.inr rfl))) (fun _ _ _ _ _ => pts_nil) (fun _ _ _ _ _ => (pe_callTy (call_listK (K := K) rfl) (by rfl) B.list_ bo_list (pa_cons (pv 15) pa_nil)))))) (pa_cons pe_bl pa_nil))))))))) (pss_one (ps_ret pe_bl)) pss_nil)
      (pss_cons (ps_for PassesOwn.never rfl (pi_range1 (by rfl) B.range_ (pa_cons pe_int pa_nil)) (pg_name (i := 10) nd rfl (by first | exact Or.inl rfl | exact Or.inr rfl)) (pss_cons (ps_set (i := 11) nd rfl (Or.inl rfl) (pe_callC C__law_spoilt (hr.mono (by omega)) (by rfl) (pa_cons (pv 1) (pa_cons (pv 2) (pa_cons (pv 6) pa_nil)))))
      (pss_cut (ps_if (pt_cmpR (op_eqK (K := K) rfl (hu64 hr)) (pe_callC C__law_take (hr.mono (by omega)) (by rfl) (pa_cons (pv 1) (pa_cons pe_int pa_nil))) pe_int (nomark _)) (pss_one (ps_set (i := 11) nd rfl (Or.inl rfl) (pe_callC C__law_spoilt (hr.mono (by omega)) (by rfl) (pa_cons (pv 1) (pa_cons (pv 2) (pa_cons (pv 11) pa_nil)))))) pss_nil)
      (pss_one (ps_if (pt_not (pt_val (pe_callC C__law_is (hr.mono (by omega)) (by rfl) (pa_cons (pv 3) (pa_cons (pv 11) (pa_cons (pe_cmpR op_isnotA (pe_callC C__law_walked (hr.mono (by omega)) (by rfl) (pa_cons (pv 2) (pa_cons (pv 11) pa_nil))) pe_non (nomark _)) pa_nil)))))) (pss_one (ps_ret pe_bl)) pss_nil)))))
      (pss_cons (ps_set (i := 12) nd rfl (Or.inl rfl) (pe_lst (pa_cons pe_non (pa_cons pe_int (pa_cons pe_str (pa_cons (pe_op (op_mulB (K := K) rfl) (pe_tup (pa_cons pe_non pa_nil)) (pe_callB (call_lenK (K := K) rfl) (by rfl) B.len_ bo_len (pa_cons (pv 6) pa_nil))) (pa_cons (pe_op (op_mulB (K := K) rfl) (pe_tup (pa_cons (pe_tup (pa_cons pe_int pa_nil)) pa_nil)) (pe_callB (call_lenK (K := K) rfl) (by rfl) B.len_ bo_len (pa_cons (pv 6) pa_nil))) (pa_cons (pe_op (op_mulB (K := K) rfl) (pe_tup (pa_cons (pe_tup (pa_cons (pe_tup (pa_cons pe_str pa_nil)) pa_nil)) pa_nil)) (pe_callB (call_lenK (K := K) rfl) (by rfl) B.len_ bo_len (pa_cons (pv 6) pa_nil))) pa_nil))))))))
      (pss_cons (ps_if (pt_not (pt_val (pe_callC C__law_is (hr.mono (by omega)) (by rfl) (pa_cons (pv 3) (pa_cons (pe_ix (ix_seqK (K := K) rfl) (pv 12) (pe_callC C__law_take (hr.mono (by omega)) (by rfl) (pa_cons (pv 1) (pa_cons pe_int pa_nil))) (fun _ _ => rfl)) (pa_cons pe_bl pa_nil)))))) (pss_one (ps_ret pe_bl)) pss_nil)
      (pss_cons (ps_asg (pe_callC C__law_circle (hr.mono (by omega)) (by rfl) (pa_cons (pv 1) pa_nil)) (pg_seqK (K := K) (n := 2) rfl rfl (pgs_cons (pg_name (i := 13) nd rfl (by first | exact Or.inl rfl | exact Or.inr rfl)) (pgs_cons (pg_name (i := 14) nd rfl (by first | exact Or.inl rfl | exact Or.inr rfl)) pgs_nil))))
      (pss_cons (ps_if (PW.pt (pw_or (pt_not (pt_val (pe_callC C__law_is (hr.mono (by omega)) (by rfl) (pa_cons (pe_callC C__law_made (hr.mono (by omega)) (by rfl) (pa_cons (pv 1) (pa_cons (pv 13) pa_nil))) (pa_cons (pv 14) (pa_cons pe_bl pa_nil)))))) (pw_or1 (pt_not (pt_val (pe_callC C__law_is (hr.mono (by omega)) (by rfl) (pa_cons (pv 3) (pa_cons (pv 6) (pa_cons pe_bl pa_nil))))))))) (pss_one (ps_ret pe_bl)) pss_nil)
      (pss_one (ps_ret (pe_or (pe_cmpR op_gt (pe_callC C__law_take (hr.mono (by omega)) (by rfl) (pa_cons (pv 1) (pa_cons pe_int pa_nil))) pe_int (nomark _)) (pe_one (pe_callC C__law_sixty (hr.mono (by omega)) (by rfl) (pa_cons (pv 1) pa_nil)))))))))))))))))))))))), rfl, ?_⟩
    walk_at "q"
    refine ⟨sc, ns, rfl, hS, hl, fun b kvs G1 H1 e0 e1 gb hb hB => ?_⟩
    walk_at "q"
    refine ⟨G1, b, kvs, rfl, e1, gb, hb, hB, fun n ps cs rs G2 H2 s2 hN ln => ?_⟩
    have mn := ln.mnet
    have nok : NOk (mnOf ps cs rs).N := by rw [ln.mnN]; exact ln.nok
    have lp1 : 1 ≤ (mnOf ps cs rs).ps.length := ln.p1
    walk_at "q"
    obtain ⟨kv, hkv, hBv⟩ := s2.pool
    refine ⟨G2, b, n, kv, ps, cs, rs, rfl, s2.ww, s2.gb, hkv, hBv, hN, ln, fun a kv2 G3 H3 sd hB3 hA => ?_⟩
    have s3 := s2.grob sd hB3
    have hA3 : NetAt K C G3 a (mnOf ps cs rs).N := by rw [ln.mnN]; exact hA
    have hN3 := hN.mono sd.g
    clear hN hA s2 ln
    generalize mnOf ps cs rs = M at *
    walk_at "q"
    obtain ⟨kv, hkv, hBv⟩ := s3.pool
    refine ⟨G3, b, n, kv, M, 16, rfl, s3.ww, s3.gb, hkv, hBv, hN3, mn.ok, by decide, fun u0 Ds G4 H4 s4' r4 hR hlD => ?_⟩
    have s4 := s3.grobB s4'
    refine q_gSeq r4 (.inr rfl) s4.ww rfl (fun us hus => ?_)
    obtain ⟨vd, _, rfl, rd, hus⟩ := rps_cons hus
    obtain ⟨vw, _, rfl, rw', hus⟩ := rps_cons hus
    obtain rfl := rps_nil hus
    have lp := mn.ok.lp
    walk_at "q"
    refine ⟨G4, n, M, vd, false, Ds, rfl, s4.ww, hN3.mono s4'.g, mn, rd, by omega, fun D hD => (hR.dv D hD).1, fun G5 H5 p5 g5 r5 => ?_⟩
    have s5 := s4.gro g5
    have hT : tot (histM M Ds) = Ds.length := tot_hist fun D hD => own_lt mn (hR.dv D hD).1
    have hs : SmT (histM M Ds) := hist_sm mn (by omega) (by omega)
    have isY := run_isH mn hR (by omega)
    have lT := hist_len M Ds
    have rt : Rp K G5 (.ref p5) (rowsD true true true (histM M Ds)) := r5
    have hh : rowsD true true true (histM M Ds) = histD M Ds := rfl
    generalize histM M Ds = T at hT hs isY lT rt hh
    have tT := tn_le (n := 5) (m := 7) (tn_told (n := 3) (z := "told") (tn_rows (n := 0) hs)) (by decide)
    have okd0 : ∀ x ∈ Ds.map (sqd true), okD 3 x = true := fun x hx => by
      obtain ⟨D, _, rfl⟩ := List.mem_map.mp hx
      exact okD_le (okD_sqd true D) (by decide)
    have hN5 := hN3.mono (s4'.g.trans g5.g)
    have hA5 := hA3.mono (s4'.g.trans g5.g)
    have rd5 : Rp K G5 vd (.list (Ds.map (sqd true))) := rd.mono g5.g
    have rw5 := rw'.mono g5.g
    clear s4 s3 rw' hN3 hA3 r4 r5 rd
    walk_at "q"
    refine q_lstRS rd5 (.inl rfl) s5.ww (fun vs p6 hvs hp6 => ?_)
    obtain ⟨G6, e6, k6, s6⟩ := s5.made (o := .lst vs) hp6
    walk_at "q"
    refine q_tupRS (rd5.mono e6) (.inl rfl) s6.ww (fun G7 H7 p7 g7 r7 => ?_)
    have s7 := s6.gro g7
    walk_at "q"
    rename_i p8 hp8
    obtain ⟨G8, e8, k8, s8⟩ := s7.made (o := .lst [.ref p6, .ref p7]) hp8
    refine s8.take (by decide) (by decide) (fun ih H9 hih s9 => ?_)
    refine q_ixLn (.inl (.inl (s9.ww _ _ k8))) (by omega) hih (fun vh hvh => ?_)
    obtain ⟨ch, rh⟩ : ∃ ch, Rp K G8 vh (sqD ch (Ds.map (sqd true))) := by
      simp only [List.mem_cons, List.mem_nil_iff, or_false] at hvh
      rcases hvh with rfl | rfl
      · exact ⟨false, .lst ((g7.g.trans e8) _ _ k6) (hvs.mono (e6.trans (g7.g.trans e8)))⟩
      · exact ⟨true, r7.mono e8⟩
    have e58 := e6.trans (g7.g.trans e8)
    have hN8 := hN5.mono e58
    have hA8 := hA5.mono e58
    have rd8 := rd5.mono e58
    have rw8 := rw5.mono e58
    have rt8 := rt.mono e58
    clear s8 s7 s6 s5 k8 k6 hp8 hp6 hvs hvh r7 hN5 hA5 rd5 rw5 rt e58
    walk_at "q"
    refine ⟨G8, a, M, vh, _, rfl, s9.ww, hA8, mn, nok, rh, shp_run (b := true) (c := ch) (by omega), .inl ⟨Ds, ⟨true, ch, rfl, hR, by omega⟩, fun Ga Ha pa ga ra => ?_⟩⟩
    rw [← hh] at ra
    have sa := s9.gro ga
    walk_at "q"
    rename_i pb hpb
    obtain ⟨Gb, eb, kb, sb⟩ := sa.made (o := .tup [.str "told", .ref p5]) hpb
    refine ⟨Gb, _, _, _, rfl, sb.ww, ra.mono eb, .tup (.inl (.inl kb)) (.cons (.str _) (.cons (rt8.mono (ga.g.trans eb)) .nil)), tT, fun Hc ec => ?_⟩
    have sc2 := sb.up ec
    have e8b := ga.g.trans eb
    walk_at "q"
    refine q_lstRS (rh.mono e8b) (sqD_seq ch _) sc2.ww (fun vs pd hvs hpd => ?_)
    obtain ⟨Gd, ed, kd, sd2⟩ := sc2.made (o := .lst vs) hpd
    walk_at "q"
    refine q_neR (.lst kd (hvs.mono ed)) (rd8.mono (e8b.trans ed)) sd2.ww (shp_run (b := true) (c := false) (by omega)) (shp_run (b := true) (c := false) (by omega)) ?_
    have eqr : PyData.eqv (.list (Ds.map (sqd true))) (.list (Ds.map (sqd true))) = true := SeqAt.eqv_refl _ (okD_lay (shp_run (b := true) (c := false) (Ds := Ds) (by omega))).1
    rw [eqr]
    have e8d := e8b.trans ed
    have hNd := hN8.mono e8d
    have hAd := hA8.mono e8d
    have rdd := rd8.mono e8d
    have rwd := rw8.mono e8d
    have rtd := rt8.mono e8d
    clear sc2 sb sa s9 hN8 hA8 rd8 rw8 rt8 kb kd hvs rh ra eqr e8d e8b
    walk_at "q"
    refine q_lcB false ?_
    walk_at "q"
    refine q_fmB (b := false) (h := sqd true) (f := fun D : Deed => some (sqd false D)) rdd sd2.ww (by omega) (fun j D u2 G9 H9 _ g9 ru2 CC2 N2 yes2 no2 => ?_) (fun Ge He De ge hDe re => ?_)
    · walk_at "q"
      refine ⟨rfl, ?_⟩
      walk_at "q"
      refine q_lstRS ru2 (sqd_seq true D) g9.w (fun vs p hvs hp => ?_)
      exact yes2 _ _ _ _ rfl (Gro.new g9.w hp) (.lst upd_same (hvs.mono (Ex.new (g9.w.back hp))))
    rw [fm_map] at re
    have se := sd2.gro ge
    walk_at "q"
    refine ⟨Ge, a, M, _, _, rfl, se.ww, hAd.mono ge.g, mn, nok, re, shp_run (b := false) (c := false) (by omega), .inl ⟨Ds, ⟨false, false, rfl, hR, by omega⟩, fun Gf Hf pf gf rf => ?_⟩⟩
    rw [← hh] at rf
    have sf := se.gro gf
    walk_at "q"
    rename_i pg hpg
    obtain ⟨Gg, eg, kg, sg⟩ := sf.made (o := .tup [.str "told", .ref p5]) hpg
    have edg := ge.g.trans (gf.g.trans eg)
    refine ⟨Gg, _, _, _, rfl, sg.ww, rf.mono eg, .tup (.inl (.inl kg)) (.cons (.str _) (.cons (rtd.mono edg) .nil)), tT, fun Hh eh => ?_⟩
    have sh := sg.up eh
    have hNg := hNd.mono edg
    have hAg := hAd.mono edg
    have rdg := rdd.mono edg
    have rwg := rwd.mono edg
    have rtg := rtd.mono edg
    clear sg sf se sd2 hNd hAd rdd rwd rtd kg re rf
    have wh := sh.ww
    walk_at "q"
    rw [List.length_map]
    refine sh.take (by omega) (by omega) (fun at_ Hi hat si => ?_)
    have hat2 : at_ ≤ Ds.length := by omega
    walk_at "q"
    refine q_slTo (b := false) rdg si.ww (fun Gj Hj pj gj rj => ?_)
    have sj := si.gro gj
    walk_at "q"
    refine q_ixRL (rwg.mono gj.g) sj.ww (atI_nat (by rw [List.getElem?_map, runs_at hat2] <;> rfl)) (fun uw huw => ?_)
    walk_at "q"
    obtain ⟨kv, hkv, hBv⟩ := sj.pool
    refine ⟨Gj, b, n, kv, M, uw, endW M (startM M) (Ds.take at_), 60, rfl, sj.ww, sj.gb, hkv, hBv, hNg.mono gj.g, mn.ok, huw, endW_ok _ (start_ok M) (by rw [List.length_take]; omega), by decide, fun k hk => by have := n_end (n_start M) k hk; rw [List.length_take] at this; omega, fun ub d kv2 Gk Hk sdk hBk ru okd hcd => ?_⟩
    have sk := sj.grob sdk hBk
    walk_at "q"
    rename_i pl hpl
    obtain ⟨Gl, el, kl, sl⟩ := sk.made (o := .lst [ub]) hpl
    refine q_catLL (rj.mono (sdk.g.trans el)) (.lst kl (Rps.one (ru.mono el)) : Rp K Gl (.ref pl) (.list [d])) sl.ww (by rw [List.length_take]; simp only [List.length_cons, List.length_nil]; omega) (fun Gm Hm pm gm rm => ?_)
    have sm := sl.gro gm
    have egm := gj.g.trans (sdk.g.trans (el.trans gm.g))
    walk_at "q"
    refine q_slFrom (b := false) (k := at_) (rdg.mono egm) sm.ww (by rw [List.length_map]; exact hat2) (fun Gn Hn pn gn rn => ?_)
    have sn := sm.gro gn
    walk_at "q"
    refine q_catLL (rm.mono gn.g) rn sn.ww (by rw [List.length_append, List.length_take, List.length_drop, List.length_map]; simp only [List.length_cons, List.length_nil]; omega) (fun Go Ho po go ro => ?_)
    have so := sn.gro go
    rw [List.append_assoc, List.singleton_append] at ro
    have oW := bad_out (es := (Ds.map (sqd true)).drop at_) hR (by omega) hat2 hcd
    have shW := bad_shp (at_ := at_) (es := (Ds.map (sqd true)).drop at_) (Ds := Ds) (by omega) (by rw [List.length_drop, List.length_map]; omega) okd (fun x hx => okd0 x (List.mem_of_mem_drop hx))
    have ego := egm.trans (gn.g.trans go.g)
    have hNo := hNg.mono ego
    have hAo := hAg.mono ego
    have rto := rtg.mono ego
    clear sn sm sl sk sj si sh hNg hAg rdg rwg rtg rj rm rn kl ru huw
    walk_at "q"
    refine ⟨Go, a, M, _, _, rfl, so.ww, hAo, mn, nok, ro, shW, .inr ⟨at_, oW, fun Gp Hp_ pp gp rp => ?_⟩⟩
    have sp := so.gro gp
    walk_at "q"
    rename_i pq hpq
    obtain ⟨Gq, eq_, kq, sq⟩ := sp.made (o := .tup [.str "step", .int (at_ : Int)]) hpq
    refine ⟨Gq, _, _, _, rfl, sq.ww, rp.mono eq_, .tup (.inl (.inl kq)) (.cons (.str _) (.cons (.int _) .nil)), tn_le (n := 2) (tn_told (n := 0) True.intro) (by decide), fun Hr er => ?_⟩
    have sr := sq.up er
    have eoq := gp.g.trans eq_
    have hNq := hNo.mono eoq
    have hAq := hAo.mono eoq
    have rtq := rto.mono eoq
    clear sq sp so hNo hAo rto ro rp kq oW shW
    walk_at "q"
    refine ⟨Gq, a, M, _, true, rfl, sr.ww, hAq, mn.ok, nok, .inl ⟨true, true, true, T, rtq, hs, isY⟩, fun Hs es => ?_⟩
    have ss := sr.up es
    walk_at "q"
    refine q_lcB true ?_
    walk_at "q"
    refine q_fmB (b := true) (h := fun r : List Deed => sqD true (r.map (sqd true))) (f := fun r : List Deed => some (sqD false (r.map (sqd false)))) rtq ss.ww (by omega) (fun i r u G8 H8 hri g8 ru CC N yes no => ?_) (fun Gt Ht Dt gt rtD rt2 => ?_)
    · have hrl := hs.2 r (List.mem_of_getElem? hri)
      walk_at "q"
      refine ⟨rfl, ?_⟩
      walk_at "q"
      refine q_lcB true ?_
      walk_at "q"
      refine q_fmB (b := true) (h := sqd true) (f := fun D : Deed => some (sqd false D)) ru g8.w (by omega) (fun j D u2 G9 H9 _ g9 ru2 CC2 N2 yes2 no2 => ?_) (fun G9 H9 D9 g9 hD9 r9 => ?_)
      · walk_at "q"
        refine ⟨rfl, ?_⟩
        walk_at "q"
        refine q_lstRS ru2 (sqd_seq true D) g9.w (fun vs p hvs hp => ?_)
        exact yes2 _ _ _ _ rfl (Gro.new g9.w hp) (.lst upd_same (hvs.mono (Ex.new (g9.w.back hp))))
      · rw [fm_map] at r9
        exact yes _ _ _ _ rfl g9 r9
    rw [fm_map] at rt2
    have st := ss.gro gt
    have rt2' : Rp K Gt (.ref Dt) (rowsD false false false T) := rt2
    walk_at "q"
    refine ⟨Gt, a, M, _, true, rfl, st.ww, hAq.mono gt.g, mn.ok, nok, .inl ⟨false, false, false, T, rt2', hs, isY⟩, fun Hu eu => ?_⟩
    have su := st.up eu
    have hNt := hNq.mono gt.g
    have hAt := hAq.mono gt.g
    have rtt := rtq.mono gt.g
    clear st ss sr hNq hAq rtq rt2 rt2'
    walk_at "q"
    refine q_rng1 6 (by decide) (fun i σ' H' => ∃ z10 z11 G', σ' = [some (.ref sc), some (.ref b), some (.ref n), some (.ref a), some vd, some vw, some (.ref p5), some vh, some (.int (at_ : Int)), some (.ref po), z10, z11, none, none, none, none, none] ∧ Ex Gt G' ∧ Bx K b G1 H1 G' H' []) ⟨none, none, Gt, rfl, Ex.refl _, su⟩ ?_ ?_
    · clear su
      rintro i σ' H' hi ⟨z10, z11, G', rfl, eg, s'⟩
      walk_at "q"
      obtain ⟨kv, hkv, hBv⟩ := s'.pool
      refine ⟨G', b, n, kv, M, _, T, rfl, s'.ww, s'.gb, hkv, hBv, hNt.mono eg, mn.ok, rtt.mono eg, by omega, by omega, fun v T1 Gl Hl sl' rl l1 t1 => ?_⟩
      have sl := s'.grobB sl'
      have egl := eg.trans sl'.g
      walk_at "q"
      refine ⟨fun σ' H' => ∃ (v : V) (T1 : List (List Deed)) (G' : Hp), σ' = [some (.ref sc), some (.ref b), some (.ref n), some (.ref a), some vd, some vw, some (.ref p5), some vh, some (.int (at_ : Int)), some (.ref po), some (.int (i : Int)), some v, none, none, none, none, none] ∧ Ex Gt G' ∧ Bx K b G1 H1 G' H' [] ∧ Rp K G' v (rowsD true true true T1) ∧ T1.length ≤ T.length + 2 ∧ tot T1 ≤ tot T + 2, ?_, ?_⟩
      · walk_at "q"
        refine sl.take (by decide) (by decide) (fun j Hm hj sm => ?_)
        walk_at "q"
        refine q_ifd (fun h1 => ?_) (fun h1 => ?_)
        · walk_at "q"
          obtain ⟨kv, hkv, hBv⟩ := sm.pool
          refine ⟨Gl, b, n, kv, M, _, T1, rfl, sm.ww, sm.gb, hkv, hBv, hNt.mono egl, mn.ok, rl, by omega, by omega, fun v2 T2 Gn Hn sn' rn l2 t2 => ?_⟩
          have sn := sm.grobB sn'
          walk_at "q"
          exact ⟨v2, T2, Gn, rfl, egl.trans sn'.g, sn, rn, by omega, by omega⟩
        · walk_at "q"
          exact ⟨v, T1, Gl, rfl, egl, sm, rl, by omega, by omega⟩
      · clear sl' sl rl l1 t1 egl s' eg
        rintro σ' H' ⟨v, T1, G', rfl, eg, s', rv, l1, t1⟩
        have sm1 : SmT T1 := sm_of (by omega) (by omega)
        have wi := walk_isH (M := M) (T := T1) (by omega)
        walk_at "q"
        refine ⟨G', n, M, v, T1, rfl, s'.ww, hNt.mono eg, mn.ok, rv, sm1, by omega, fun hn H6 e6 => ?_, fun Es hE G6 H6 p6 g6 r6 => ?_⟩
        · have s6 := s'.up e6
          walk_at "q"
          refine ⟨G', a, M, v, _, rfl, s6.ww, hAt.mono eg, mn.ok, nok, .inl ⟨true, true, true, T1, rv, sm1, by rw [wi, hn] <;> rfl⟩, fun H7 e7 => ?_⟩
          walk_at "q"
          exact ⟨_, _, G', rfl, eg, s6.up e7⟩
        · have s6 := s'.gro g6
          walk_at "q"
          refine ⟨G6, a, M, v, _, rfl, s6.ww, hAt.mono (eg.trans g6.g), mn.ok, nok, .inl ⟨true, true, true, T1, rv.mono g6.g, sm1, by rw [wi, hE] <;> rfl⟩, fun H7 e7 => ?_⟩
          walk_at "q"
          exact ⟨_, _, G6, rfl, eg.trans g6.g, s6.up e7⟩
    · clear su
      rintro σ' H' ⟨z10, z11, G', rfl, eg, s'⟩
      have rt' : Rp K G' (.ref p5) (.tuple (T.map fun r => sqD true (r.map (sqd true)))) := rtt.mono eg
      have w' := s'.ww
      walk_at "q"
      rename_i q1 hq1
      obtain ⟨Ga, ea, ka, sa⟩ := s'.made (o := .tup [.non]) hq1
      rw [List.length_map, lT]
      refine q_rep1 (d := .none) (.tup (.inl (.inl ka)) (.cons .non .nil)) sa.ww (by omega) (fun Gb Hb pb gb' rb => ?_)
      have sb := sa.gro gb'
      walk_at "q"
      rename_i q2 hq2 q3 hq3
      obtain ⟨Gc, ec, kc, sc2⟩ := sb.made (o := .tup [.int 0]) hq2
      obtain ⟨Gd, ed, kd, sd2⟩ := sc2.made (o := .tup [.ref q2]) hq3
      have rt2 := rt'.mono (ea.trans (gb'.g.trans (ec.trans ed)))
      refine q_lenRT rt2 sd2.ww ?_
      rw [List.length_map, lT]
      walk_at "q"
      refine q_rep1 (d := .tuple [.int 0]) (.tup (.inl (.inl kd)) (.cons (.tup (.inl (.inl (ed _ _ kc))) (.cons (.int _) .nil)) .nil)) sd2.ww (by omega) (fun Ge He pe ge re => ?_)
      have se := sd2.gro ge
      walk_at "q"
      rename_i q4 hq4 q5 hq5 q6 hq6
      obtain ⟨Gf, ef, kf, sf⟩ := se.made (o := .tup [.str "act"]) hq4
      obtain ⟨Gg, eg2, kg, sg⟩ := sf.made (o := .tup [.ref q4]) hq5
      obtain ⟨Gh, eh, kh, sh⟩ := sg.made (o := .tup [.ref q5]) hq6
      refine q_lenRT (rt'.mono (ea.trans (gb'.g.trans (ec.trans (ed.trans (ge.g.trans (ef.trans (eg2.trans eh)))))))) sh.ww ?_
      rw [List.length_map, lT]
      walk_at "q"
      refine q_rep1 (d := .tuple [.tuple [.str "act"]]) (.tup (.inl (.inl kh)) (.cons (.tup (.inl (.inl (eh _ _ kg))) (.cons (.tup (.inl (.inl ((eg2.trans eh) _ _ kf))) (.cons (.str _) .nil)) .nil)) .nil)) sh.ww (by omega) (fun Gi Hi pi gi ri => ?_)
      have si := sh.gro gi
      walk_at "q"
      rename_i q7 hq7
      obtain ⟨Gj, ej, kj, sj⟩ := si.made (o := .lst [.non, .int 0, .str "told", .ref pb, .ref pe, .ref pi]) hq7
      have eej := (ef.trans (eg2.trans eh)).trans (gi.g.trans ej)
      have e'j := (ea.trans gb'.g).trans (((ec.trans ed).trans ge.g).trans eej)
      refine sj.take (by decide) (by decide) (fun io Hk hio sk => ?_)
      refine q_ixLn (.inl (.inl (sk.ww _ _ kj))) (by omega) hio (fun vo hvo => ?_)
      obtain ⟨d, rdo, od⟩ : ∃ d, Rp K Gj vo d ∧ Odd M d := by
        simp only [List.mem_cons, List.mem_nil_iff, or_false] at hvo
        rcases hvo with rfl | rfl | rfl | rfl | rfl | rfl
        · exact ⟨.none, .non, odd_prim (shp_word0 (by decide +kernel)) rfl⟩
        · exact ⟨.int 0, .int _, odd_prim (shp_word0 (by decide +kernel)) rfl⟩
        · exact ⟨.str "told", .str _, odd_prim (shp_word (by decide +kernel)) rfl⟩
        · exact ⟨_, rb.mono (((ec.trans ed).trans ge.g).trans eej), odd_nons lp1 (by omega)⟩
        · exact ⟨_, re.mono eej, odd_rows lp1 (by omega) (by decide +kernel) (nodeed_int _ _)⟩
        · exact ⟨_, ri.mono ej, odd_rows lp1 (by omega) (by decide +kernel) (nodeed_act _)⟩
      have egj := eg.trans e'j
      clear sj si sh sg sf se sd2 sc2 sb sa rb re ri ka kc kd kf kg kh kj hvo
      walk_at "q"
      refine ⟨Gj, a, M, vo, false, rfl, sk.ww, hAt.mono egj, mn.ok, nok, .inr ⟨d, rdo, od, rfl⟩, fun Hl el => ?_⟩
      have sl := sk.up el
      walk_at "q"
      obtain ⟨kv, hkv, hBv⟩ := sl.pool
      refine ⟨Gj, b, kv, rfl, sl.ww, sl.gb, hkv, hBv, fun pr nr ur ps2 cs2 rs2 T2 Gm Hm sm' kp hNr lnr rT2 l2 t2 t0 k2 => ?_⟩
      have sm := sl.grobB sm'
      refine .inl ⟨pr, [.ref nr, ur], rfl, .inl (.inl (sm.ww _ _ kp)), rfl, ?_⟩
      walk_at "q"
      obtain ⟨kv, hkv, hBv⟩ := sm.pool
      refine ⟨Gm, b, nr, kv, ps2, cs2, rs2, rfl, sm.ww, sm.gb, hkv, hBv, hNr, lnr, fun a2 kv2 Gn Hn sdn hBn hAn => ?_⟩
      have sn := sm.grob sdn hBn
      have hAn2 : NetAt K C Gn a2 (mnOf ps2 cs2 rs2).N := by rw [lnr.mnN]; exact hAn
      have nok2 : NOk (mnOf ps2 cs2 rs2).N := by rw [lnr.mnN]; exact lnr.nok
      walk_at "q"
      refine ⟨Gn, a2, mnOf ps2 cs2 rs2, ur, false, rfl, sn.ww, hAn2, lnr.mnet.ok, nok2, .inl ⟨true, true, true, T2, rT2.mono sdn.g, sm_of (by omega) (by omega), by rw [ring_none k2 t0] <;> rfl⟩, fun Ho eo => ?_⟩
      have so := sn.up eo
      have egn := egj.trans (sm'.g.trans sdn.g)
      walk_at "q"
      refine ⟨Gn, a, M, .ref p5, true, rfl, so.ww, hAt.mono egn, mn.ok, nok, .inl ⟨true, true, true, T, rtt.mono egn, hs, isY⟩, fun Hp_ ep => ?_⟩
      have sp := so.up ep
      walk_at "q"
      refine sp.take (by decide) (by decide) (fun j Hq hj sq => ?_)
      walk_at "q"
      refine q_ifd (fun h1 => ?_) (fun h1 => ?_)
      · exact q_bt' (by first | rfl | simp [h1]) (q _)
      · walk_at "q"
        obtain ⟨kv, hkv, hBv⟩ := sq.pool
        exact ⟨Gn, b, kv, rfl, sq.ww, sq.gb, hkv, hBv, fun H' => q H'⟩
end
end Cw

set_option maxHeartbeats 0
namespace Cw
open PySem PySem.Spec PyProof.Rows L2
theorem facts {P : Program} {w : World} {K : PySem.W.Frag} {h : Heap} {mg : Str → Option Value} {f : Addr} (X : K.In h) (G : h.Ns mainGlobals mg) (hfa : mg ("law" : Str) = some (.ref f)) (c : SaysX faL fnL xsL K) :
    ∃ fd : FuncData, (∀ (s : Shared) (v : Value), BindsTo s fd ⟨[v], []⟩ [("script", v)]) ∧ ∀ base : Heap, K.In base → base.Ns mainGlobals mg → FnOk P w K mg base CX0 12 f fd ["script"] (sp_law K) := by
  have g : ∀ x, x ∈ gloL → mg x = some (.ref (He.ga K x)) := fun x hx => He.glo_ok X G (c.f (x := .glo x) (List.mem_append_left _ (List.mem_map_of_mem hx)))
  have B : Blt mg := blt_of fun x hx => He.free_ok X G (c.f (x := .free x) (List.mem_append_right _ (List.mem_append_left _ (List.mem_map_of_mem hx))))
  have fx : ∀ x, x ∈ faX → x.ok K = true := fun x hx => c.f (List.mem_append_right _ (List.mem_append_right _ hx))
  obtain ⟨fd_is_number, F_is_number⟩ := c.d.def_ 0 (d := d_is_number) rfl
  obtain ⟨fd_is_below, F_is_below⟩ := c.d.def_ 1 (d := d_is_below) rfl
  obtain ⟨fd_is_sequence, F_is_sequence⟩ := c.d.def_ 2 (d := d_is_sequence) rfl
  obtain ⟨fd_is_row, F_is_row⟩ := c.d.def_ 3 (d := d_is_row) rfl
  obtain ⟨fd_is_name, F_is_name⟩ := c.d.def_ 4 (d := d_is_name) rfl
  obtain ⟨fd_are_unlike, F_are_unlike⟩ := c.d.def_ 5 (d := d_are_unlike) rfl
  obtain ⟨fd_is_process, F_is_process⟩ := c.d.def_ 6 (d := d_is_process) rfl
  obtain ⟨fd_are_processes, F_are_processes⟩ := c.d.def_ 7 (d := d_are_processes) rfl
  obtain ⟨fd_is_channel, F_is_channel⟩ := c.d.def_ 8 (d := d_is_channel) rfl
  obtain ⟨fd_are_channels, F_are_channels⟩ := c.d.def_ 9 (d := d_are_channels) rfl
  obtain ⟨fd_is_act, F_is_act⟩ := c.d.def_ 10 (d := d_is_act) rfl
  obtain ⟨fd_is_rule, F_is_rule⟩ := c.d.def_ 11 (d := d_is_rule) rfl
  obtain ⟨fd_are_rules, F_are_rules⟩ := c.d.def_ 12 (d := d_are_rules) rfl
  obtain ⟨fd_start, F_start⟩ := c.d.def_ 13 (d := d_start) rfl
  obtain ⟨fd_owner, F_owner⟩ := c.d.def_ 14 (d := d_owner) rfl
  obtain ⟨fd_is_deed, F_is_deed⟩ := c.d.def_ 15 (d := d_is_deed) rfl
  obtain ⟨fd_act_word, F_act_word⟩ := c.d.def_ 16 (d := d_act_word) rfl
  obtain ⟨fd_rule_deeds, F_rule_deeds⟩ := c.d.def_ 17 (d := d_rule_deeds) rfl
  obtain ⟨fd_losses, F_losses⟩ := c.d.def_ 18 (d := d_losses) rfl
  obtain ⟨fd_at_hand, F_at_hand⟩ := c.d.def_ 19 (d := d_at_hand) rfl
  obtain ⟨fd_done, F_done⟩ := c.d.def_ 20 (d := d_done) rfl
  obtain ⟨fd_can_be_done, F_can_be_done⟩ := c.d.def_ 21 (d := d_can_be_done) rfl
  obtain ⟨fd_present_rows, F_present_rows⟩ := c.d.def_ 22 (d := d_present_rows) rfl
  obtain ⟨fd_without, F_without⟩ := c.d.def_ 23 (d := d_without) rfl
  obtain ⟨fd_changed, F_changed⟩ := c.d.def_ 24 (d := d_changed) rfl
  obtain ⟨fd_played, F_played⟩ := c.d.def_ 25 (d := d_played) rfl
  obtain ⟨fd_worlds_on, F_worlds_on⟩ := c.d.def_ 26 (d := d_worlds_on) rfl
  obtain ⟨fd_history, F_history⟩ := c.d.def_ 27 (d := d_history) rfl
  obtain ⟨fd_rows_of, F_rows_of⟩ := c.d.def_ 28 (d := d_rows_of) rfl
  obtain ⟨fd_is_history, F_is_history⟩ := c.d.def_ 29 (d := d_is_history) rfl
  obtain ⟨fd_run_of, F_run_of⟩ := c.d.def_ 30 (d := d_run_of) rfl
  obtain ⟨fd_are_rows, F_are_rows⟩ := c.d.def_ 31 (d := d_are_rows) rfl
  obtain ⟨fd_many_events, F_many_events⟩ := c.d.def_ 32 (d := d_many_events) rfl
  obtain ⟨fd_least_way, F_least_way⟩ := c.d.def_ 33 (d := d_least_way) rfl
  obtain ⟨fd_first_ready, F_first_ready⟩ := c.d.def_ 34 (d := d_first_ready) rfl
  obtain ⟨fd__law_mixed, F__law_mixed⟩ := c.d.def_ 35 (d := d__law_mixed) rfl
  obtain ⟨fd__law_pool, F__law_pool⟩ := c.d.def_ 36 (d := d__law_pool) rfl
  obtain ⟨fd__law_take, F__law_take⟩ := c.d.def_ 37 (d := d__law_take) rfl
  obtain ⟨fd__law_names, F__law_names⟩ := c.d.def_ 38 (d := d__law_names) rfl
  obtain ⟨fd__law_rule, F__law_rule⟩ := c.d.def_ 39 (d := d__law_rule) rfl
  obtain ⟨fd__law_net, F__law_net⟩ := c.d.def_ 40 (d := d__law_net) rfl
  obtain ⟨fd__law_made, F__law_made⟩ := c.d.def_ 41 (d := d__law_made) rfl
  obtain ⟨fd__law_start, F__law_start⟩ := c.d.def_ 42 (d := d__law_start) rfl
  obtain ⟨fd__law_told, F__law_told⟩ := c.d.def_ 43 (d := d__law_told) rfl
  obtain ⟨fd__law_first, F__law_first⟩ := c.d.def_ 44 (d := d__law_first) rfl
  obtain ⟨fd__law_possible, F__law_possible⟩ := c.d.def_ 45 (d := d__law_possible) rfl
  obtain ⟨fd__law_owner, F__law_owner⟩ := c.d.def_ 46 (d := d__law_owner) rfl
  obtain ⟨fd__law_done, F__law_done⟩ := c.d.def_ 47 (d := d__law_done) rfl
  obtain ⟨fd__law_run, F__law_run⟩ := c.d.def_ 48 (d := d__law_run) rfl
  obtain ⟨fd__law_near, F__law_near⟩ := c.d.def_ 49 (d := d__law_near) rfl
  obtain ⟨fd__law_same, F__law_same⟩ := c.d.def_ 50 (d := d__law_same) rfl
  obtain ⟨fd__law_history, F__law_history⟩ := c.d.def_ 51 (d := d__law_history) rfl
  obtain ⟨fd__law_walked, F__law_walked⟩ := c.d.def_ 52 (d := d__law_walked) rfl
  obtain ⟨fd__law_other_deed, F__law_other_deed⟩ := c.d.def_ 53 (d := d__law_other_deed) rfl
  obtain ⟨fd__law_spoilt, F__law_spoilt⟩ := c.d.def_ 54 (d := d__law_spoilt) rfl
  obtain ⟨fd__law_circle, F__law_circle⟩ := c.d.def_ 55 (d := d__law_circle) rfl
  obtain ⟨fd__law_asked, F__law_asked⟩ := c.d.def_ 56 (d := d__law_asked) rfl
  obtain ⟨fd__law_is, F__law_is⟩ := c.d.def_ 57 (d := d__law_is) rfl
  obtain ⟨fd__law_long, F__law_long⟩ := c.d.def_ 58 (d := d__law_long) rfl
  obtain ⟨fd__law_sixty, F__law_sixty⟩ := c.d.def_ 59 (d := d__law_sixty) rfl
  obtain ⟨fd_law, F_law⟩ := c.d.def_ 60 (d := d_law) rfl
  obtain ⟨fi_BadValue, Fi_BadValue⟩ := c.d.def_ 61 (d := di_BadValue) rfl
  have T_BadValue : Xn K mg "BadValue" "at" (He.ga K "BadValue") := ⟨g _ (by decide), He.ma K (He.ga K "BadValue") "__init__", _, _, fi_BadValue, xcB_ok (c.x (x := .xc "BadValue" "at") (by simp [xsL])), initS_BadValue, Fi_BadValue⟩
  obtain ⟨fi_BadStep, Fi_BadStep⟩ := c.d.def_ 62 (d := di_BadStep) rfl
  have T_BadStep : Xn K mg "BadStep" "at" (He.ga K "BadStep") := ⟨g _ (by decide), He.ma K (He.ga K "BadStep") "__init__", _, _, fi_BadStep, xcB_ok (c.x (x := .xc "BadStep" "at") (by simp [xsL])), initS_BadStep, Fi_BadStep⟩
  obtain ⟨fm_Net___init__, F_Net___init__⟩ := c.d.def_ 63 (d := dm_Net___init__) rfl
  obtain ⟨fm_Net___eq__, F_Net___eq__⟩ := c.d.def_ 64 (d := dm_Net___eq__) rfl
  have Mk_Net : L2.Mk K (He.ga K "Net") (He.ma K (He.ga K "Net") "__init__") := He.mkr_ok (fx (.mkr "Net") (by simp [faX, faX_0]))
  have nt : NtC K mg (He.ga K "Net") := ⟨g _ (by decide), He.cls_ok (fx (.cls "Net") (by simp [faX, faX_0])), He.noat_ok (fx (.noat "Net" "processes") (by simp [faX, faX_0])), He.noat_ok (fx (.noat "Net" "channels") (by simp [faX, faX_0])), He.noat_ok (fx (.noat "Net" "rules") (by simp [faX, faX_0]))⟩
  have exm_BadStep_BadStep := of_decide_eq_true (c.x (x := .exm "BadStep" "BadStep" true) (by simp [xsL]))
  have cs : Cst K mg := { MOST_PROCESSES := He.int_ok X G (fx (.int "MOST_PROCESSES" 5) (by simp [faX, faX_0])), MOST_STATES := He.int_ok X G (fx (.int "MOST_STATES" 8) (by simp [faX, faX_0])), MOST_CHANNELS := He.int_ok X G (fx (.int "MOST_CHANNELS" 8) (by simp [faX, faX_0])), MOST_RULES := He.int_ok X G (fx (.int "MOST_RULES" 40) (by simp [faX, faX_0])), MANY_TOKENS := He.int_ok X G (fx (.int "MANY_TOKENS" 10) (by simp [faX, faX_0])), LONGEST_NAME := He.int_ok X G (fx (.int "LONGEST_NAME" 6) (by simp [faX, faX_0])), MOST_DEEDS := He.int_ok X G (fx (.int "MOST_DEEDS" 60) (by simp [faX, faX_0])), LETTERS := He.str_ok X G (fx (.str "LETTERS" "abcdefghijklmnopqrstuvwxyz") (by simp [faX, faX_0])), ORDERED_a := He.ga K "ORDERED", ORDERED := g _ (by decide), ORDERED_s := fun H => He.tupB_ok (c.x (x := .tup "ORDERED" ["order", "order lossy"]) (by simp [xsL])) H, LOSSY_a := He.ga K "LOSSY", LOSSY := g _ (by decide), LOSSY_s := fun H => He.tupB_ok (c.x (x := .tup "LOSSY" ["order lossy", "loose lossy"]) (by simp [xsL])) H, KINDS_a := He.ga K "KINDS", KINDS := g _ (by decide), KINDS_s := fun H => He.tupB_ok (c.x (x := .tup "KINDS" ["order", "loose", "order lossy", "loose lossy"]) (by simp [xsL])) H }
  have e := hfa.symm.trans (g "law" (by decide))
  cases e
  have b := FunD.bindsA (ps := ["script"]) F_law fun _ _ _ _ _ _ us hl => match us, hl with | [_], _ => rfl
  refine ⟨fd_law, fun s v => b s [v] rfl, fun base _ _ => ?_⟩
  have C_is_number := c_is_number (P := P) (w := w) (base := base) F_is_number (g "is_number" (by decide)) B
  have C_is_below := c_is_below (P := P) (w := w) (base := base) F_is_below (g "is_below" (by decide)) C_is_number
  have C_is_sequence := c_is_sequence (P := P) (w := w) (base := base) F_is_sequence (g "is_sequence" (by decide)) B
  have C_is_row := c_is_row (P := P) (w := w) (base := base) F_is_row (g "is_row" (by decide)) B C_is_sequence
  have C_is_name := c_is_name (P := P) (w := w) (base := base) F_is_name (g "is_name" (by decide)) B cs
  have C_are_unlike := c_are_unlike (P := P) (w := w) (base := base) F_are_unlike (g "are_unlike" (by decide)) B
  have C_is_process := c_is_process (P := P) (w := w) (base := base) F_is_process (g "is_process" (by decide)) B cs C_is_row C_is_name C_is_below
  have C_are_processes := c_are_processes (P := P) (w := w) (base := base) F_are_processes (g "are_processes" (by decide)) B cs C_is_sequence C_is_process C_are_unlike
  have C_is_channel := c_is_channel (P := P) (w := w) (base := base) F_is_channel (g "is_channel" (by decide)) B cs C_is_row C_is_name C_is_below
  have C_are_channels := c_are_channels (P := P) (w := w) (base := base) F_are_channels (g "are_channels" (by decide)) B cs C_is_sequence C_is_channel C_are_unlike
  have C_is_act := c_is_act (P := P) (w := w) (base := base) F_is_act (g "is_act" (by decide)) B cs C_is_row C_is_below
  have C_is_rule := c_is_rule (P := P) (w := w) (base := base) F_is_rule (g "is_rule" (by decide)) B C_is_row C_is_below C_is_act
  have C_are_rules := c_are_rules (P := P) (w := w) (base := base) F_are_rules (g "are_rules" (by decide)) B cs C_is_sequence C_is_rule
  have M_Net := c_Net (P := P) (w := w) (base := base) F_Net___init__ Mk_Net nt B T_BadValue C_are_processes C_are_channels C_are_rules
  have C_start := c_start (P := P) (w := w) (base := base) F_start (g "start" (by decide)) B nt
  have C_act_word := c_act_word (P := P) (w := w) (base := base) F_act_word (g "act_word" (by decide)) B nt C_is_below
  have C_is_deed := c_is_deed (P := P) (w := w) (base := base) F_is_deed (g "is_deed" (by decide)) B cs nt C_is_row C_is_below C_is_number C_act_word
  have ok_owner := fn_owner (P := P) (w := w) (base := base) F_owner B nt T_BadStep C_is_deed
  have C_owner := c_owner (P := P) (w := w) (base := base) F_owner (g "owner" (by decide)) ok_owner
  have C_changed := c_changed (P := P) (w := w) (base := base) F_changed (g "changed" (by decide)) B
  have C_without := c_without (P := P) (w := w) (base := base) F_without (g "without" (by decide)) B C_changed
  have C_at_hand := c_at_hand (P := P) (w := w) (base := base) F_at_hand (g "at_hand" (by decide)) B cs nt
  have C_present_rows := c_present_rows (P := P) (w := w) (base := base) F_present_rows (g "present_rows" (by decide)) B
  have C_losses := c_losses (P := P) (w := w) (base := base) F_losses (g "losses" (by decide)) B cs nt C_at_hand
  have C_rule_deeds := c_rule_deeds (P := P) (w := w) (base := base) F_rule_deeds (g "rule_deeds" (by decide)) B nt C_at_hand
  have C_can_be_done := c_can (P := P) (w := w) (base := base) F_can_be_done (g "can_be_done" (by decide)) B C_is_deed C_rule_deeds C_losses
  have ok_done := fn_done (P := P) (w := w) (base := base) F_done B nt T_BadStep C_can_be_done C_present_rows C_without C_changed
  have C_done := c_done (P := P) (w := w) (base := base) F_done (g "done" (by decide)) ok_done
  have C_worlds_on := c_won (P := P) (w := w) (base := base) F_worlds_on (g "worlds_on" (by decide)) B cs T_BadStep C_is_sequence C_can_be_done C_done
  have ok_played := fn_played (P := P) (w := w) (base := base) F_played C_start C_worlds_on
  have C_played := c_played (P := P) (w := w) (base := base) F_played (g "played" (by decide)) ok_played
  have C__law_mixed := c_mixed (P := P) (w := w) (base := base) F__law_mixed (g "_law_mixed" (by decide)) B
  have C__law_take := c_take (P := P) (w := w) (base := base) F__law_take (g "_law_take" (by decide)) B C__law_mixed
  have C__law_pool := c_pool (P := P) (w := w) (base := base) F__law_pool (g "_law_pool" (by decide)) B
  have C__law_names := c_dnames (P := P) (w := w) (base := base) F__law_names (g "_law_names" (by decide)) B C__law_take
  have C__law_rule := c_prule (P := P) (w := w) (base := base) F__law_rule (g "_law_rule" (by decide)) B C__law_take
  have C__law_net := c_pnet (P := P) (w := w) (base := base) F__law_net (g "_law_net" (by decide)) B C__law_take C__law_names C__law_rule
  have C__law_made := c_made (P := P) (w := w) (base := base) F__law_made (g "_law_made" (by decide)) B C__law_take M_Net
  have C__law_start := c_dstart (P := P) (w := w) (base := base) F__law_start (g "_law_start" (by decide)) B
  have C__law_told := c_told (P := P) (w := w) (base := base) F__law_told (g "_law_told" (by decide)) B
  have C__law_first := c_first (P := P) (w := w) (base := base) F__law_first (g "_law_first" (by decide)) B
  have C__law_possible := c_dposs (P := P) (w := w) (base := base) F__law_possible (g "_law_possible" (by decide)) B C__law_first
  have C__law_done := c_ddone (P := P) (w := w) (base := base) F__law_done (g "_law_done" (by decide)) B
  have C__law_run := c_prun (P := P) (w := w) (base := base) F__law_run (g "_law_run" (by decide)) B C__law_take C__law_start C__law_possible C__law_done
  have C__law_same := c_same (P := P) (w := w) (base := base) F__law_same (g "_law_same" (by decide)) B 7
  have C_rows_of := c_rowsof (P := P) (w := w) (base := base) F_rows_of (g "rows_of" (by decide)) B nt C_owner
  have C_history := c_hist (P := P) (w := w) (base := base) F_history (g "history" (by decide)) C_played C_rows_of
  have C__law_owner := c_downer (P := P) (w := w) (base := base) F__law_owner (g "_law_owner" (by decide)) B
  have C__law_history := c_lhist (P := P) (w := w) (base := base) F__law_history (g "_law_history" (by decide)) B C__law_owner
  have C_many_events := c_manyG (P := P) (w := w) (base := base) F_many_events (g "many_events" (by decide)) B
  have C_are_rows := c_arows8 (P := P) (w := w) (base := base) F_are_rows (g "are_rows" (by decide)) B cs nt C_is_row C_is_sequence C_many_events C_is_deed C_owner
  have C_first_ready := c_fready (P := P) (w := w) (base := base) F_first_ready (g "first_ready" (by decide)) B C_can_be_done
  have C_least_way := c_lway (P := P) (w := w) (base := base) F_least_way (g "least_way" (by decide)) B C_first_ready C_done
  have C_run_of := c_runof8 (P := P) (w := w) (base := base) F_run_of (g "run_of" (by decide)) B C_start C_are_rows C_least_way C_many_events
  have C_is_history := c_ishist (P := P) (w := w) (base := base) F_is_history (g "is_history" (by decide)) B C_run_of
  have C__law_other_deed := c_odeed (P := P) (w := w) (base := base) F__law_other_deed (g "_law_other_deed" (by decide)) B C__law_take
  have C__law_spoilt := c_spoilt (P := P) (w := w) (base := base) F__law_spoilt (g "_law_spoilt" (by decide)) B C__law_take C__law_other_deed
  have C__law_walked := c_walked (P := P) (w := w) (base := base) F__law_walked (g "_law_walked" (by decide)) B C__law_start C__law_possible C__law_owner C__law_done
  have C__law_near := c_nearD (P := P) (w := w) (base := base) F__law_near (g "_law_near" (by decide)) B C__law_take C__law_possible
  have C__law_asked := c_asked8 (P := P) (w := w) (base := base) F__law_asked (g "_law_asked" (by decide)) B T_BadStep exm_BadStep_BadStep C_history
  have C__law_is := c_is8 (P := P) (w := w) (base := base) F__law_is (g "_law_is" (by decide)) B C_is_history
  have C__law_circle := c_circle8 (P := P) (w := w) (base := base) F__law_circle (g "_law_circle" (by decide)) B C__law_take C__law_names
  have C__law_long := c_long (P := P) (w := w) (base := base) F__law_long (g "_law_long" (by decide)) B C__law_take C__law_names
  have C__law_sixty := c_sixty (P := P) (w := w) (base := base) F__law_sixty (g "_law_sixty" (by decide)) B C__law_long C__law_made C__law_is C__law_history C__law_same C__law_asked
  exact c_law F_law B C__law_pool C__law_take C__law_net C__law_made C__law_run C__law_history C__law_asked C__law_is C__law_walked C__law_same C__law_near C__law_spoilt C__law_circle C__law_sixty
end Cw

set_option maxHeartbeats 0
namespace Cw
open PySem PySem.Spec PyProof.Rows L2
end Cw
open PySem PySem.W PySem.Calls PyProof.Rows
theorem PySem.Challenge.cw_cutweave_k08_histories_and_spoilt_ones_holds : PySem.Challenge.rw_cutweave_k08_histories_and_spoilt_ones.Holds := by
  w_on; o_law
  refine HandSHeadRun.head_any (r := OpenLaw.row PySem.Challenge.rw_cutweave_k08_histories_and_spoilt_ones) (q := view (OpenLaw.row PySem.Challenge.rw_cutweave_k08_histories_and_spoilt_ones).prog [82]) (H := Cw.hkL) (ob := Cw.obL) (M := 3000) (loose := Cw.looseL) (d := HandSHeadRun.topDef (OpenLaw.row PySem.Challenge.rw_cutweave_k08_histories_and_spoilt_ones).prog 82) (kwd := []) Cw.obL_eq
    (by kernel_rfl) (fun s => by kernel_rfl) Cw.runL (by kernel_rfl) (by kernel_rfl) (by kernel_rfl) (by rfl) (by first | assumption | decide +kernel) (by decide +kernel) ⟨rfl, rfl, rfl, rfl, rfl, by decide +kernel⟩ ?hw ?hc
  case hw => w_witness2
  case hc =>
    refine L2.walk_ofE (l := PySem.Challenge.rw_cutweave_k08_histories_and_spoilt_ones) (n := 63) (k := 12) (x := "script") (CX := L2.CX0) rfl (by decide) (by kernel_rfl) ⟨rfl, by decide, by decide⟩ ?F (fun _ _ _ _ z => z)
    intro w mg fa h Y G hmg0
    obtain ⟨K, KX, c⟩ := Y
    have hmg : mg ("law" : PySem.Str) = some (.ref fa) := by
      have e : (HandSHeadRun.topDef (OpenLaw.row PySem.Challenge.rw_cutweave_k08_histories_and_spoilt_ones).prog 82).name = ("law" : PySem.Str) := by kernel_rfl
      rw [← e]
      exact hmg0
    obtain ⟨fd, hb, hF⟩ := Cw.facts (P := (PySem.Challenge.rw_cutweave_k08_histories_and_spoilt_ones).prog) (w := w) KX G hmg c
    exact ⟨K, fd, Cw.sp_law K, KX, hb, fun H a ns hl _ hS => ⟨a, ns, rfl, hS, by omega, fun _ => rfl⟩, hF⟩
#print axioms PySem.Challenge.cw_cutweave_k08_histories_and_spoilt_ones_holds
