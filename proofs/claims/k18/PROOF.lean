import PyProof.Rows.All
import Wide.All
import OpenK.AllK
import Wide.FinOn
import HandS.ForMost
import HandS.Evl
import HandS.TupAny
import HandS.SortInts
import HandS.Zip
import HandS.More
import KE.SortData
import PyProof.ReprRoads
import KE.KDictPairs
import KE.GoesEnum
import HandS.Style
import HandS.TupMul
import HandS.Deep
import HandS.Conv
import HandS.Strs
import HandS.IsInst
import KE.KDictZip
import HandS.DictComp
import HandS.SetFor
import PyProof.SumAny
import KE.KDictSum
import HandS.DictSubView
import HandS.SetKeys
import HandS.TryOnly
import KE.DataMinMax
import PyProof.TupleOfSeq
import HandS.Flow
import PySem.Challenge.RW_soundtitle_k18_rules_and_laws
set_option Elab.async false
set_option linter.all false
set_option maxRecDepth 100000
set_option maxHeartbeats 4000000
/-! DA: data without addresses. What a value is as a tree (Is), the state of a def's run in such words (St, SS), what a piece of text is worth as a plain function (DE, DS, DF), and when a piece keeps to it (PD, PT', PDS, spD). -/
namespace Dl
open PySem L2 Evl

/-! ### tuples whose object is known: made by the text itself, or written at its top -/
def PlT (K : PySem.W.Frag) (G : Hp) (a : Addr) (xs : List V) : Prop :=
  (∃ ob : Obj, G a = some (.frz ob (.tup xs)) ∧ ob.dict = none) ∨
  ∃ (ob : Obj) (its : Array Value) (n : Nat), List.lookup a K = some ob ∧ ob.dict = none ∧ ob.cls = .type "tuple" ∧ ob.data = .seq its n ∧ its.size ≤ sizeLine ∧ Vals xs its.toList
theorem PlT.sq {K : PySem.W.Frag} {G : Hp} {a : Addr} {xs : List V} (h : PlT K G a xs) : SqT K G a xs := by
  rcases h with ⟨ob, h, _⟩ | ⟨ob, its, n, h1, _, h3, h4, h5, h6⟩
  · exact .inl (.inr ⟨ob, h⟩)
  · exact .inr ⟨ob, its, n, h1, h3, h4, h5, h6⟩
theorem PlT.mono {K : PySem.W.Frag} {G G' : Hp} {a : Addr} {xs : List V} (e : Ex G G') (h : PlT K G a xs) : PlT K G' a xs := by
  rcases h with ⟨ob, h, d⟩ | h
  · exact .inl ⟨ob, e _ _ h, d⟩
  · exact .inr h
/-- a new tuple, its object known -/
def NewT (H : Hp) (xs : List V) (Q : VK) : Prop := ∀ p (ob : Obj), H p = none → ob.dict = none → Q (.ref p) (upd H p (.frz ob (.tup xs)))
section
variable {X : Cx} {pins : List (Addr × Obj)} {σ : L2.St} {H : Hp} {s : Shared}
theorem laidT {Q : VK} {xs : List V} {its : List Value} (I : Inv X pins σ H s) (r : Vals xs its) (z : xs.length ≤ sizeLine) (k : NewT H xs Q) :
    EP X pins σ Q (.ref s.heap.objs.size) { s with heap := s.heap.push { cls := .type "tuple", data := .seq its.toArray } } := by
  have stands : (s.heap.push { cls := .type "tuple", data := .seq its.toArray }).get? s.heap.objs.size = some { cls := .type "tuple", data := .seq its.toArray } := Heap.get?_push_size _ rfl
  have free : H s.heap.objs.size = none := I.hok.fresh (Nat.le_refl _)
  refine ⟨.ref s.heap.objs.size, upd H s.heap.objs.size (.frz { cls := .type "tuple", data := .seq its.toArray } (.tup xs)), ?_, rfl, k _ _ free rfl⟩
  exact I.laid (t' := s.toks) (fun b u q => Heap.get?_push_of_some _ q) (Nat.le_refl _) ⟨stands, z, its, r, _, stands, rfl, 0, rfl⟩
def tTupN (t : TA) : TE := fun σ H Q => t σ H fun xs H1 => xs.length ≤ sizeLine ∧ NewT H1 xs Q
theorem pe_tupN {es : List Expr} {t : TA} {n} {pos : Pos} (h : PA X es t) : PE X (.Tuple es n pos) (tTupN t) := by
  constructor
  intro pins s σ H Q I told
  have items := h.run pos pins s σ H _ I told
  exact wpAny_Tuple_spliced (thn items fun us s1 ⟨xs, H1, I1, r, z, k⟩ => And.intro (r.length ▸ z) (laidT I1 r z k))
def rCatN (K : PySem.W.Frag) : R2 := fun x y H Q => ∃ a c xs ys, x = .ref a ∧ y = .ref c ∧ SqT K H a xs ∧ SqT K H c ys ∧ xs.length + ys.length ≤ sizeLine ∧
  (xs = [] → Q (.ref c) H) ∧ (ys = [] → Q (.ref a) H) ∧ NewT H (xs ++ ys) Q
theorem op_catN : OpR X (binaryOp .Add) (rCatN X.K) := by
  intro pins s σ H x y v u Q I rx ry told
  obtain ⟨a, c, xs, ys, rfl, rfl, ha, hc, z, k0, k1, k2⟩ := told
  cases rx
  cases ry
  obtain ⟨is, r, p, _⟩ := I.tuple ha
  obtain ⟨js, q, p', _⟩ := I.tuple hc
  have size : is.length + js.length ≤ sizeLine := by
    rw [← r.length, ← q.length]
    exact z
  by_cases no : is = []
  · subst no
    cases r
    exact cat_tup0 p p' ⟨.ref c, H, I, rfl, k0 rfl⟩
  · refine HT.cat_tup p p' no (fun e => ?_) (fun _ => ?_) size
    · subst e
      cases q
      exact ⟨.ref a, H, I, rfl, k1 rfl⟩
    · exact laidT I (r.append q) (by rw [List.length_append]; exact z) k2
def rTupOf (K : PySem.W.Frag) : List V → Hp → VK → Prop := fun xs H Q => ∃ p ys, xs = [V.ref p] ∧ ((SqL K H p ys ∧ NewT H ys Q) ∨ (SqT K H p ys ∧ Q (V.ref p) H))
theorem call_tupOf : CallR X (.type "tuple") (rTupOf X.K) := by
  intro pins s σ H xs us Q I r told
  obtain ⟨p, ys, rfl, told⟩ := told
  rw [Vals.ref1 r]
  rcases told with ⟨hl, k⟩ | ⟨ht, k⟩
  · obtain ⟨is, q, pl, z⟩ := I.list hl
    have len := q.length
    refine call_tuple_list pl.isList (fun h' keep => ?_) (by rw [List.size_toArray]; omega)
    exact laidT (I.kept (t' := s.toks) keep) q z k
  · obtain ⟨is, _, pl, _⟩ := I.tuple ht
    exact call_tuple_same pl ⟨.ref p, H, I, rfl, k⟩
def rSlN (K : PySem.W.Frag) : V → Option Int → Option Int → Hp → VK → Prop := fun x lo hi H Q => ∃ a xs, x = .ref a ∧ SqT K H a xs ∧
  (HT.sIx xs.length 0 lo = 0 ∧ HT.sIx xs.length xs.length hi = xs.length → Q (.ref a) H) ∧ NewT H (cutV xs lo hi) Q
theorem sl_tupN : SlR X (rSlN X.K) := by
  intro pins s σ H x v vl vu lo hi sl Q I rx hs pl pu told
  obtain ⟨a, xs, rfl, hx, k1, k2⟩ := told
  cases rx
  obtain ⟨is, r, p, z⟩ := I.tuple hx
  have len : is.toArray.size = xs.length := by
    rw [List.size_toArray]
    exact r.length.symm
  have slot := PyProof.Rows.slot_tuple_getitem.lookup
  refine ⟨"tuple", _, slot, p.typeIs, ?_⟩
  by_cases all : HT.sIx xs.length 0 lo = 0 ∧ HT.sIx xs.length xs.length hi = xs.length
  · exact getItem_tuple_whole p hs pl pu (len.symm ▸ all) ⟨.ref a, H, I, rfl, k1 all⟩
  · refine HT.getItem_tuple_cut p hs pl pu (len.symm ▸ all) ?_ (len.symm ▸ z)
    rw [len]
    have cut : Vals (cutV xs lo hi) ((is.drop (HT.sIx xs.length 0 lo)).take (HT.sIx xs.length xs.length hi - HT.sIx xs.length 0 lo)) := (r.drop _).take _
    exact laidT I cut (Nat.le_trans (cutV_length xs lo hi) z) k2
end

/-! ### a datum as it is read in a heap -/
def keyD : Key → PyData
  | .inl i => .int i
  | .inr s => .str s
mutual
inductive Is (K : PySem.W.Frag) (G : Hp) : V → PyData → Prop
  | non : Is K G .non .none
  | bl (b : Bool) : Is K G (.bl b) (.bool b)
  | int (i : Int) : Is K G (.int i) (.int i)
  | str (x : Str) : Is K G (.str x) (.str x)
  | lst {a : Addr} {xs : List V} {ds : List PyData} : G a = some (.lst xs) → IsL K G xs ds → Is K G (.ref a) (.list ds)
  | tup {a : Addr} {xs : List V} {ds : List PyData} : PlT K G a xs → IsL K G xs ds → Is K G (.ref a) (.tuple ds)
  | dct {a : Addr} {kvs : List (Key × V)} {ds : List (PyData × PyData)} : G a = some (.dK kvs) → IsD K G kvs ds → Is K G (.ref a) (.dict ds)
inductive IsL (K : PySem.W.Frag) (G : Hp) : List V → List PyData → Prop
  | nil : IsL K G [] []
  | cons {v : V} {vs : List V} {d : PyData} {ds : List PyData} : Is K G v d → IsL K G vs ds → IsL K G (v :: vs) (d :: ds)
inductive IsD (K : PySem.W.Frag) (G : Hp) : List (Key × V) → List (PyData × PyData) → Prop
  | nil : IsD K G [] []
  | cons {k : Key} {v : V} {vs : List (Key × V)} {d : PyData} {ds : List (PyData × PyData)} : Is K G v d → IsD K G vs ds → IsD K G ((k, v) :: vs) ((keyD k, d) :: ds)
end

section
variable {K : PySem.W.Frag} {G G' : Hp}
mutual
theorem Is.mono (e : Ex G G') : ∀ {v : V} {d : PyData}, Is K G v d → Is K G' v d
  | _, _, .non => .non
  | _, _, .bl b => .bl b
  | _, _, .int i => .int i
  | _, _, .str x => .str x
  | _, _, .lst h r => .lst (e _ _ h) (IsL.mono e r)
  | _, _, .tup h r => .tup (h.mono e) (IsL.mono e r)
  | _, _, .dct h r => .dct (e _ _ h) (IsD.mono e r)
theorem IsL.mono (e : Ex G G') : ∀ {vs : List V} {ds : List PyData}, IsL K G vs ds → IsL K G' vs ds
  | _, _, .nil => .nil
  | _, _, .cons h r => .cons (Is.mono e h) (IsL.mono e r)
theorem IsD.mono (e : Ex G G') : ∀ {vs : List (Key × V)} {ds : List (PyData × PyData)}, IsD K G vs ds → IsD K G' vs ds
  | _, _, .nil => .nil
  | _, _, .cons h r => .cons (Is.mono e h) (IsD.mono e r)
end
theorem IsL.len : ∀ {vs : List V} {ds : List PyData}, IsL K G vs ds → vs.length = ds.length
  | _, _, .nil => rfl
  | _, _, .cons _ r => by rw [List.length_cons, List.length_cons, IsL.len r]
theorem IsL.get : ∀ {vs : List V} {ds : List PyData} {i : Nat} {d : PyData}, IsL K G vs ds → ds[i]? = some d → ∃ v, vs[i]? = some v ∧ Is K G v d
  | _, _, 0, _, .cons h _, e => by
    cases e
    exact ⟨_, rfl, h⟩
  | _, _, i + 1, d, .cons _ r, e => by
    obtain ⟨v, h1, h2⟩ := IsL.get (i := i) (d := d) r (by simpa using e)
    exact ⟨v, by simpa using h1, h2⟩
theorem IsL.got : ∀ {vs : List V} {ds : List PyData} {i : Nat} {v : V}, IsL K G vs ds → vs[i]? = some v → ∃ d, ds[i]? = some d ∧ Is K G v d
  | _, _, 0, _, .cons h _, e => by
    cases e
    exact ⟨_, rfl, h⟩
  | _, _, i + 1, v, .cons _ r, e => by
    obtain ⟨d, h1, h2⟩ := IsL.got (i := i) (v := v) r (by simpa using e)
    exact ⟨d, by simpa using h1, h2⟩
theorem IsL.append : ∀ {vs ws : List V} {ds es : List PyData}, IsL K G vs ds → IsL K G ws es → IsL K G (vs ++ ws) (ds ++ es)
  | _, _, _, _, .nil, s => s
  | _, _, _, _, .cons h r, s => .cons h (IsL.append r s)
theorem IsL.take : ∀ {vs : List V} {ds : List PyData} (n : Nat), IsL K G vs ds → IsL K G (vs.take n) (ds.take n)
  | _, _, 0, _ => .nil
  | _, _, _ + 1, .nil => .nil
  | _, _, n + 1, .cons h r => .cons h (IsL.take n r)
theorem IsL.drop : ∀ {vs : List V} {ds : List PyData} (n : Nat), IsL K G vs ds → IsL K G (vs.drop n) (ds.drop n)
  | _, _, 0, r => r
  | _, _, _ + 1, .nil => .nil
  | _, _, n + 1, .cons _ r => IsL.drop n r
theorem IsL.one {v : V} {d : PyData} (h : Is K G v d) : IsL K G [v] [d] := .cons h .nil
theorem IsL.ints : ∀ (ns : List Int), IsL K G (ns.map V.int) (ns.map PyData.int)
  | [] => .nil
  | n :: ns => .cons (.int n) (IsL.ints ns)
theorem IsL.strs : ∀ (ns : List Str), IsL K G (ns.map V.str) (ns.map PyData.str)
  | [] => .nil
  | n :: ns => .cons (.str n) (IsL.strs ns)
theorem IsL.of_ints : ∀ {vs : List V} {ns : List Int}, IsL K G vs (ns.map PyData.int) → vs = ns.map V.int
  | [], [], _ => rfl
  | _ :: _, [], h => nomatch h
  | [], _ :: _, h => nomatch h
  | _ :: _, n :: ns, .cons h r => by
    cases h
    rw [IsL.of_ints r]
    rfl
theorem IsL.of_strs : ∀ {vs : List V} {ns : List Str}, IsL K G vs (ns.map PyData.str) → vs = ns.map V.str
  | [], [], _ => rfl
  | _ :: _, [], h => nomatch h
  | [], _ :: _, h => nomatch h
  | _ :: _, n :: ns, .cons h r => by
    cases h
    rw [IsL.of_strs r]
    rfl
end

/-! ### the state of a run, told by data -/
/-- what nobody else holds and may be changed: a list, a dict -/
inductive OC where
  | l (ds : List PyData) | d (kvs : List (Key × PyData))
def kvD (kvs : List (Key × PyData)) : List (PyData × PyData) := kvs.map fun p => (keyD p.1, p.2)
def OC.data : OC → PyData
  | .l ds => .list ds
  | .d kvs => .dict (kvD kvs)
def OcOk (K : PySem.W.Frag) (G : Hp) : OC → HO → Prop
  | .l ds, o => ∃ xs, o = .lst xs ∧ IsL K G xs ds
  | .d kvs, o => ∃ xs : List (Key × V), o = .dK xs ∧ xs.map (·.1) = kvs.map (·.1) ∧ IsD K G xs (kvD kvs)
theorem OcOk.mono {K : PySem.W.Frag} {G G' : Hp} (e : Ex G G') : ∀ {c : OC} {o : HO}, OcOk K G c o → OcOk K G' c o
  | .l _, _, ⟨xs, h, r⟩ => ⟨xs, h, r.mono e⟩
  | .d _, _, ⟨xs, h, k, r⟩ => ⟨xs, h, k, r.mono e⟩
theorem OcOk.is {K : PySem.W.Frag} {G : Hp} {p : Addr} : ∀ {c : OC} {o : HO}, OcOk K G c o → G p = some o → Is K G (.ref p) c.data
  | .l _, _, ⟨xs, h, r⟩, g => by
    subst h
    exact .lst g r
  | .d _, _, ⟨xs, h, k, r⟩, g => by
    subst h
    exact .dct g r
/-- a name's place: empty; a datum; a thing that nobody else holds; the bag -/
inductive Sl where
  | no | sh (d : PyData) | own (c : OC) | bag
abbrev Env := List Sl
/-- what the one changing thing holds that is handed from def to def -/
structure Bg where
  z0 : Int
  z1 : Int
  z2 : Int
  cs : List Int
def bgV (B : Bg) (c : Addr) : List V := [.int B.z0, .int B.z1, .int B.z2, .ref c]
/-- the bag stands at b -/
def BagAt (b : Addr) (G H : Hp) (B : Bg) : Prop := G b = none ∧ ∃ c, H b = some (.lst (bgV B c)) ∧ G c = some (.lst (B.cs.map V.int))
/-- the bag's fourth thing stands at c -/
def BgC (H : Hp) (b c : Addr) : Prop := ∃ x y z : Int, H b = some (.lst [.int x, .int y, .int z, .ref c])
theorem BgC.ne {H : Hp} {b c p : Addr} {o : HO} (hb : p ≠ b) (h : BgC H b c) : BgC (upd H p o) b c := by
  obtain ⟨x, y, z, h⟩ := h
  exact ⟨x, y, z, by rw [upd_ne hb.symm]; exact h⟩
theorem BgC.new {H : Hp} {b c p : Addr} {o : HO} (hp : H p = none) (h : BgC H b c) : BgC (upd H p o) b c := by
  obtain ⟨x, y, z, h⟩ := h
  exact ⟨x, y, z, by rw [upd_ne (ne_of_none h hp)]; exact h⟩
/-- from (G, H) to (G', H'): data stay, what is tracked stays but the bag, what was no datum is none -/
structure Frm (b : Addr) (G H G' H' : Hp) : Prop where
  ex : Ex G G'
  keep : ∀ a o, H a = some o → a ≠ b → H' a = some o
  hide : ∀ a o, H a = some o → G a = none → G' a = none
  cell : ∀ c, BgC H b c → BgC H' b c
theorem Frm.refl {b : Addr} {G H : Hp} : Frm b G H G H := ⟨Ex.refl _, fun _ _ h _ => h, fun _ _ _ h => h, fun _ h => h⟩
theorem Frm.trans {b : Addr} {G H G1 H1 G2 H2 : Hp} (x : Frm b G H G1 H1) (y : Frm b G1 H1 G2 H2) (hb : G2 b = none) : Frm b G H G2 H2 where
  ex := x.ex.trans y.ex
  keep := fun a o h n => y.keep a o (x.keep a o h n) n
  hide := fun a o h n => by
    by_cases e : a = b
    · rw [e]
      exact hb
    · exact y.hide a o (x.keep a o h e) (x.hide a o h n)
  cell := fun c h => y.cell c (x.cell c h)
theorem ex_none {G H : Hp} {p : Addr} (e : Ex G H) (h : H p = none) : G p = none := fresh_back e h
/-- a new thing, tracked and a datum -/
theorem Frm.new {b p : Addr} {G H : Hp} {o : HO} (e : Ex G H) (hp : H p = none) : Frm b G H (upd G p o) (upd H p o) where
  ex := Ex.new (ex_none e hp)
  keep := fun a u h _ => by
    rw [upd_ne (ne_of_none h hp)]
    exact h
  hide := fun a u h n => by
    rw [upd_ne (ne_of_none h hp)]
    exact n
  cell := fun c h => h.new hp
theorem Ex.both {G H : Hp} {p : Addr} {o : HO} (e : Ex G H) : Ex (upd G p o) (upd H p o) := fun a u h => by
  by_cases q : a = p
  · rw [q, upd_same] at h ⊢
    exact h
  · rw [upd_ne q] at h ⊢
    exact e a u h
theorem BagAt.mono {b : Addr} {G H G' H' : Hp} {B : Bg} (x : BagAt b G H B) (f : Frm b G H G' H') (hb : H' b = H b) : BagAt b G' H' B := by
  obtain ⟨h1, c, h2, h3⟩ := x
  exact ⟨f.hide b _ h2 h1, c, by rw [hb]; exact h2, f.ex c _ h3⟩
theorem BagAt.at {b : Addr} {G H : Hp} {B : Bg} (x : BagAt b G H B) : ∃ o, H b = some o := let ⟨_, c, h, _⟩ := x; ⟨_, h⟩

def SlOk (K : PySem.W.Frag) (b : Addr) (G H : Hp) (v : Option (Option V)) : Sl → Prop
  | .no => True
  | .sh d => ∃ x, v = some (some x) ∧ Is K G x d
  | .own c => ∃ p o, v = some (some (.ref p)) ∧ G p = none ∧ p ≠ b ∧ H p = some o ∧ OcOk K G c o
  | .bag => v = some (some (.ref b))
structure St (K : PySem.W.Frag) (b : Addr) (G : Hp) (σ : L2.St) (H : Hp) (env : Env) (B : Bg) : Prop where
  ex : Ex G H
  bag : BagAt b G H B
  len : env.length = σ.length
  sl : ∀ (i : Nat) s, env[i]? = some s → SlOk K b G H σ[i]? s
  dis : ∀ (i j : Nat) (ds es : OC) p, env[i]? = some (.own ds) → env[j]? = some (.own es) → σ[i]? = some (some (.ref p)) → σ[j]? = some (some (.ref p)) → i = j
section
variable {K : PySem.W.Frag} {b : Addr} {G G' H H' : Hp} {σ : L2.St} {env : Env} {B B' : Bg}
theorem St.step (x : St K b G σ H env B) (f : Frm b G H G' H') (e : Ex G' H') (g : BagAt b G' H' B') : St K b G' σ H' env B' where
  ex := e
  bag := g
  len := x.len
  sl := fun i s h => by
    have q := x.sl i s h
    cases s with
    | no => trivial
    | sh d =>
      obtain ⟨v, h1, h2⟩ := q
      exact ⟨v, h1, h2.mono f.ex⟩
    | own ds =>
      obtain ⟨p, xs, h1, h2, h3, h4, h5⟩ := q
      exact ⟨p, xs, h1, f.hide p _ h4 h2, h3, f.keep p _ h4 h3, h5.mono f.ex⟩
    | bag => exact q
  dis := x.dis
theorem St.get {i : Nat} {d : PyData} (x : St K b G σ H env B) (h : env[i]? = some (.sh d)) : ∃ v, σ[i]? = some (some v) ∧ Is K G v d := x.sl i _ h
end

/-! ### what a piece of text is worth -/
abbrev DE := Env → Bg → Option (PyData × Bg)
/-- what may be done with a result -/
def Post (K : PySem.W.Frag) (b : Addr) (G H : Hp) (d : PyData) (B' : Bg) (Q : VK) : Prop := ∀ v G' H', Frm b G H G' H' → Ex G' H' → BagAt b G' H' B' → Is K G' v d → Q v H'
def tD (K : PySem.W.Frag) (b : Addr) (f : DE) : TE := fun σ H Q => ∃ G env B d B', St K b G σ H env B ∧ f env B = some (d, B') ∧ Post K b G H d B' Q
def tDT (K : PySem.W.Frag) (b : Addr) (f : DE) : TT := fun σ H Q => ∃ G env B c B', St K b G σ H env B ∧ f env B = some (.bool c, B') ∧ ∀ G' H', Frm b G H G' H' → Ex G' H' → BagAt b G' H' B' → Q c H'
/-- the text e is worth f -/
def PD (X : Cx) (b : Addr) (e : Expr) (f : DE) : Prop := PE X e (tD X.K b f)
def PDT (X : Cx) (b : Addr) (e : Expr) (f : DE) : Prop := PT X e (tDT X.K b f)
theorem PE.imp {X : Cx} {e : Expr} {t t' : TE} (h : PE X e t) (i : ∀ σ H Q, t' σ H Q → t σ H Q) : PE X e t' := ⟨fun pins s σ H Q I q => h.run pins s σ H Q I (i σ H Q q)⟩
theorem PT.imp {X : Cx} {e : Expr} {t t' : TT} (h : PT X e t) (i : ∀ σ H Q, t' σ H Q → t σ H Q) : PT X e t' := ⟨fun pins s σ H Q I q => h.run pins s σ H Q I (i σ H Q q)⟩
theorem PW.imp {X : Cx} {e : Expr} {t t' : TT} (h : PW X e t) (i : ∀ σ H Q, t' σ H Q → t σ H Q) : PW X e t' := ⟨fun wh pins s σ H Q I q => h.run wh pins s σ H Q I (i σ H Q q)⟩
theorem PA.imp {X : Cx} {e : List Expr} {t t' : TA} (h : PA X e t) (i : ∀ σ H Q, t' σ H Q → t σ H Q) : PA X e t' := ⟨fun pos pins s σ H Q I q => h.run pos pins s σ H Q I (i σ H Q q)⟩
theorem PI.imp {X : Cx} {tg e : Expr} {t t' : TI} (h : PI X tg e t) (i : ∀ σ H Q, t' σ H Q → t σ H Q) : PI X tg e t' := ⟨fun pins s σ H Q I q => h.run pins s σ H Q I (i σ H Q q)⟩
theorem PG.imp {X : Cx} {tg : Expr} {t t' : TG} (h : PG X tg t) (i : ∀ v σ H Q, t' v σ H Q → t v σ H Q) : PG X tg t' := ⟨fun pins s σ H v u Q I r q => h.run pins s σ H v u Q I r (i v σ H Q q)⟩
theorem PS.imp {X : Cx} {e : Stmt} {t t' : TS} (h : PS X e t) (i : ∀ D σ H, t' D σ H → t D σ H) : PS X e t' := ⟨fun pins s σ H D I q => h.run pins s σ H D I (i D σ H q)⟩
theorem PSs.imp {X : Cx} {e : List Stmt} {t t' : TS} (h : PSs X e t) (i : ∀ D σ H, t' D σ H → t D σ H) : PSs X e t' := ⟨fun pins s σ H D I q => h.run pins s σ H D I (i D σ H q)⟩
theorem PTs.imp {X : Cx} {e : List Expr} {t t' : TT} (h : PTs X e t) (i : ∀ σ H Q, t' σ H Q → t σ H Q) : PTs X e t' := ⟨fun pins s σ H Q I q => h.run pins s σ H Q I (i σ H Q q)⟩

section
variable {K : PySem.W.Frag} {b : Addr} {G G1 H H1 : Hp} {d : PyData} {B B' : Bg} {Q : VK}
theorem Post.val {v : V} (k : Post K b G H d B Q) (e : Ex G H) (g : BagAt b G H B) (h : Is K G v d) : Q v H := k v G H Frm.refl e g h
theorem Post.go (k : Post K b G H d B' Q) (f : Frm b G H G1 H1) : Post K b G1 H1 d B' Q := fun v G2 H2 f2 e2 g2 i2 => k v G2 H2 (f.trans f2 g2.1) e2 g2 i2
theorem BagAt.new {p : Addr} {o : HO} (g : BagAt b G H B) (e : Ex G H) (hp : H p = none) : BagAt b (upd G p o) (upd H p o) B := by
  obtain ⟨q, hq⟩ := g.at
  exact g.mono (Frm.new e hp) (by rw [upd_ne (ne_of_none hq hp)])
/-- a new list, a new tuple -/
theorem Post.lst {p : Addr} {xs : List V} {ds : List PyData} (k : Post K b G H (.list ds) B Q) (e : Ex G H) (g : BagAt b G H B) (hp : H p = none) (i : IsL K G xs ds) : Q (.ref p) (upd H p (.lst xs)) :=
  k _ _ _ (Frm.new e hp) (Ex.both e) (g.new e hp) (.lst upd_same (i.mono (Ex.new (ex_none e hp))))
theorem Post.tup {xs : List V} {ds : List PyData} (k : Post K b G H (.tuple ds) B Q) (e : Ex G H) (g : BagAt b G H B) (i : IsL K G xs ds) : NewT H xs Q := fun p ob hp hd =>
  k _ _ _ (Frm.new e hp) (Ex.both e) (g.new e hp) (.tup (.inl ⟨ob, upd_same, hd⟩) (i.mono (Ex.new (ex_none e hp))))
theorem Post.dct {p : Addr} {xs : List (Key × V)} {ds : List (PyData × PyData)} (k : Post K b G H (.dict ds) B Q) (e : Ex G H) (g : BagAt b G H B) (hp : H p = none) (i : IsD K G xs ds) : Q (.ref p) (upd H p (.dK xs)) :=
  k _ _ _ (Frm.new e hp) (Ex.both e) (g.new e hp) (.dct upd_same (i.mono (Ex.new (ex_none e hp))))
end

/-! ### operations on data, and when a rule of the layer keeps to one -/
def R2D (K : PySem.W.Frag) (r : R2) (g : PyData → PyData → Option PyData) : Prop := ∀ b G H x y a c d B (Q : VK), Ex G H → BagAt b G H B → Is K G x a → Is K G y c → g a c = some d → Post K b G H d B Q → r x y H Q
def R1D (K : PySem.W.Frag) (r : V → Hp → VK → Prop) (g : PyData → Option PyData) : Prop := ∀ b G H x a d B (Q : VK), Ex G H → BagAt b G H B → Is K G x a → g a = some d → Post K b G H d B Q → r x H Q
def RLD (K : PySem.W.Frag) (r : List V → Hp → VK → Prop) (g : List PyData → Option PyData) : Prop := ∀ b G H xs as d B (Q : VK), Ex G H → BagAt b G H B → IsL K G xs as → g as = some d → Post K b G H d B Q → r xs H Q
def RMD (K : PySem.W.Frag) (r : V → List V → Hp → VK → Prop) (g : PyData → List PyData → Option PyData) : Prop := ∀ b G H x xs a as d B (Q : VK), Ex G H → BagAt b G H B → Is K G x a → IsL K G xs as → g a as = some d → Post K b G H d B Q → r x xs H Q

/-! ### expressions -/
section
variable {X : Cx} {b : Addr} {pos : Pos} {e e1 e2 e3 : Expr} {f f1 f2 f3 : DE}
def dVar (i : Nat) : DE := fun env B => match env[i]? with
  | some (.sh d) => some (d, B)
  | _ => none
theorem pd_var (i : Nat) {x : Str} (h : PE X (.Name x pos) (tVar i)) : PD X b (.Name x pos) (dVar i) := PE.imp h fun σ H Q ⟨G, env, B, d, B', s, ev, k⟩ => by
  unfold dVar at ev
  split at ev
  · rename_i d' hd
    cases ev
    obtain ⟨v, h1, h2⟩ := s.get hd
    exact ⟨v, h1, k.val s.ex s.bag h2⟩
  · cases ev
def dC (d : PyData) : DE := fun _ B => some (d, B)
theorem pd_c {v : V} {d : PyData} (hv : ∀ (G : Hp), Is X.K G v d) (h : PE X e (tC v)) : PD X b e (dC d) := PE.imp h fun σ H Q ⟨G, env, B, d', B', s, ev, k⟩ => by
  cases ev
  exact k.val s.ex s.bag (hv G)
theorem pd_int {i : Int} {j} : PD X b (.Constant (.int i) j pos) (dC (.int i)) := pd_c (fun _ => .int i) pe_int
theorem pd_bl {i : Bool} {j} : PD X b (.Constant (.bool i) j pos) (dC (.bool i)) := pd_c (fun _ => .bl i) pe_bl
theorem pd_non {j} : PD X b (.Constant .none j pos) (dC .none) := pd_c (fun _ => .non) pe_non
theorem pd_str {x : Str} {j} : PD X b (.Constant (.str x) j pos) (dC (.str x)) := pd_c (fun _ => .str x) pe_str

def dBin (g : PyData → PyData → Option PyData) (f1 f2 : DE) : DE := fun env B => (f1 env B).bind fun p => (f2 env p.2).bind fun q => (g p.1 q.1).map fun d => (d, q.2)
theorem dBin_some {g : PyData → PyData → Option PyData} {env : Env} {B B' : Bg} {d : PyData} (h : dBin g f1 f2 env B = some (d, B')) : ∃ a B1 c, f1 env B = some (a, B1) ∧ f2 env B1 = some (c, B') ∧ g a c = some d := by
  unfold dBin at h
  cases h1 : f1 env B with
  | none => rw [h1] at h; cases h
  | some p =>
    rw [h1, Option.bind_some] at h
    cases h2 : f2 env p.2 with
    | none => rw [h2] at h; cases h
    | some q =>
      rw [h2, Option.bind_some] at h
      cases h3 : g p.1 q.1 with
      | none => rw [h3] at h; cases h
      | some d' =>
        rw [h3] at h
        cases h
        exact ⟨p.1, p.2, q.1, rfl, h2, h3⟩
theorem tD_op {K : PySem.W.Frag} {r : R2} {g : PyData → PyData → Option PyData} (hr : R2D K r g) : ∀ σ H Q, tD K b (dBin g f1 f2) σ H Q → tOp r (tD K b f1) (tD K b f2) σ H Q := fun σ H Q ⟨G, env, B, d, B', s, ev, k⟩ => by
  obtain ⟨a, B1, c, h1, h2, h3⟩ := dBin_some ev
  refine ⟨G, env, B, a, B1, s, h1, fun v G1 H1 fr1 ex1 bg1 is1 => ?_⟩
  refine ⟨G1, env, B1, c, B', s.step fr1 ex1 bg1, h2, fun w G2 H2 fr2 ex2 bg2 is2 => ?_⟩
  exact hr b G2 H2 v w a c d B' Q ex2 bg2 (is1.mono fr2.ex) is2 h3 (k.go (fr1.trans fr2 bg2.1))
theorem pd_bin {op : Operator} {r : R2} {g : PyData → PyData → Option PyData} (ho : OpR X (binaryOp op) r) (hr : R2D X.K r g) (h1 : PD X b e1 f1) (h2 : PD X b e2 f2) : PD X b (.BinOp e1 op e2 pos) (dBin g f1 f2) := PE.imp (pe_op ho h1 h2) (tD_op hr)
theorem pd_cmp {op : CmpOp} {r : R2} {g : PyData → PyData → Option PyData} (ho : OpR X (compareOp op) r) (hr : R2D X.K r g) (h1 : PD X b e1 f1) (h2 : PD X b e2 f2) (hm : behindInMarks op e2 = false := by first | exact nomark _ | rfl) : PD X b (.Compare e1 [op] [e2] pos) (dBin g f1 f2) :=
  PE.imp (pe_cmpR ho h1 h2 hm) (tD_op hr)
theorem pd_ix {r : R2} {g : PyData → PyData → Option PyData} (ho : IxR X r) (hr : R2D X.K r g) (h1 : PD X b e1 f1) (h2 : PD X b e2 f2) (hp : PlainIx e2 := by exact fun _ _ => rfl) : PD X b (.Subscript e1 e2 pos) (dBin g f1 f2) := PE.imp (pe_ix ho h1 h2 hp) (tD_op hr)
def dUn (g : PyData → Option PyData) (f : DE) : DE := fun env B => (f env B).bind fun p => (g p.1).map fun d => (d, p.2)
theorem dUn_some {g : PyData → Option PyData} {env : Env} {B B' : Bg} {d : PyData} (h : dUn g f env B = some (d, B')) : ∃ a, f env B = some (a, B') ∧ g a = some d := by
  unfold dUn at h
  cases h1 : f env B with
  | none => rw [h1] at h; cases h
  | some p =>
    rw [h1, Option.bind_some] at h
    cases h3 : g p.1 with
    | none => rw [h3] at h; cases h
    | some d' =>
      rw [h3] at h
      cases h
      exact ⟨p.1, rfl, h3⟩
theorem tD_un {K : PySem.W.Frag} {r : V → Hp → VK → Prop} {g : PyData → Option PyData} (hr : R1D K r g) : ∀ σ H Q, tD K b (dUn g f) σ H Q → tUn r (tD K b f) σ H Q := fun σ H Q ⟨G, env, B, d, B', s, ev, k⟩ => by
  obtain ⟨a, h1, h3⟩ := dUn_some ev
  exact ⟨G, env, B, a, B', s, h1, fun v G1 H1 fr1 ex1 bg1 is1 => hr b G1 H1 v a d B' Q ex1 bg1 is1 h3 (k.go fr1)⟩
theorem pd_un {op : UnaryOp} {r : V → Hp → VK → Prop} {g : PyData → Option PyData} (ho : UnR X (unaryOp op) r) (hr : R1D X.K r g) (h : PD X b e f) : PD X b (.UnaryOp op e pos) (dUn g f) := PE.imp (pe_un ho h) (tD_un hr)

/-! ### tests, and, or, not, if-else -/
theorem pdt_val (h : PD X b e f) (ht : ∀ whole : Sem Value, PySem.isTrue e X.env whole = (do let v ← whole; standAt e.pos; holding [v] (truthy v)) := by intro _; rfl) : PDT X b e f := PT.imp (pt_val h ht) fun σ H Q ⟨G, env, B, c, B', s, ev, k⟩ =>
  ⟨G, env, B, .bool c, B', s, ev, fun v G1 H1 fr1 ex1 bg1 is1 => by
    cases is1
    exact ⟨c, rfl, k G1 H1 fr1 ex1 bg1⟩⟩
/-- by what a test asks: true, false | none -/
def dAnd (f1 f2 : DE) : DE := fun env B => (f1 env B).bind fun p => match p.1 with
  | .bool true => f2 env p.2
  | .bool false => some (.bool false, p.2)
  | _ => none
def dOr (f1 f2 : DE) : DE := fun env B => (f1 env B).bind fun p => match p.1 with
  | .bool false => f2 env p.2
  | .bool true => some (.bool true, p.2)
  | _ => none
def dIf (f1 f2 f3 : DE) : DE := fun env B => (f1 env B).bind fun p => match p.1 with
  | .bool true => f2 env p.2
  | .bool false => f3 env p.2
  | _ => none
def gNot : PyData → Option PyData
  | .bool c => some (.bool (!c))
  | _ => none
theorem dIf_some {env : Env} {B B' : Bg} {d : PyData} (h : dIf f1 f2 f3 env B = some (d, B')) : ∃ c B1, f1 env B = some (.bool c, B1) ∧ (if c = true then f2 env B1 = some (d, B') else f3 env B1 = some (d, B')) := by
  unfold dIf at h
  cases h1 : f1 env B with
  | none => rw [h1] at h; cases h
  | some p =>
    rw [h1, Option.bind_some] at h
    obtain ⟨a, B1⟩ := p
    dsimp only at h
    split at h
    · exact ⟨true, B1, rfl, by rw [if_pos rfl]; exact h⟩
    · exact ⟨false, B1, rfl, by rw [if_neg Bool.false_ne_true]; exact h⟩
    · cases h
theorem dAnd_eq : dAnd f1 f2 = dIf f1 f2 (dC (.bool false)) := rfl
theorem dOr_eq : dOr f1 f2 = dIf f1 (dC (.bool true)) f2 := by
  funext env B
  unfold dOr dIf dC
  cases f1 env B with
  | none => rfl
  | some p =>
    obtain ⟨a, B1⟩ := p
    show (match a with | .bool false => _ | .bool true => _ | _ => none) = (match a with | .bool true => _ | .bool false => _ | _ => none)
    cases a with
    | bool c => cases c <;> rfl
    | _ => rfl
theorem pd_if (h1 : PDT X b e1 f1) (h2 : PD X b e2 f2) (h3 : PD X b e3 f3) : PD X b (.IfExp e1 e2 e3 pos) (dIf f1 f2 f3) := PE.imp (pe_ifExp h1 h2 h3) fun σ H Q ⟨G, env, B, d, B', s, ev, k⟩ => by
  obtain ⟨c, B1, h1, h2⟩ := dIf_some ev
  refine ⟨G, env, B, c, B1, s, h1, fun G1 H1 fr ex bg => ?_⟩
  cases c with
  | true =>
    rw [if_pos rfl] at h2 ⊢
    exact ⟨G1, env, B1, d, B', s.step fr ex bg, h2, k.go fr⟩
  | false =>
    rw [if_neg Bool.false_ne_true] at h2 ⊢
    exact ⟨G1, env, B1, d, B', s.step fr ex bg, h2, k.go fr⟩
def PDW (X : Cx) (b : Addr) (e : Expr) (f : DE) : Prop := PW X e (tDT X.K b f)
theorem pdt_w (h : PDW X b e f) : PDT X b e f := PW.pt h
theorem tDT_if {K : PySem.W.Frag} {tt : TT} {σ : L2.St} {H : Hp} {Q : Bool → Hp → Prop} (h : tDT K b (dIf f1 f2 f3) σ H Q)
    (i : ∀ c σ H, tDT K b (if c = true then f2 else f3) σ H Q → tt σ H Q) : tDT K b f1 σ H fun c H1 => tDT K b (if c = true then f2 else f3) σ H1 Q := by
  obtain ⟨G, env, B, c, B', s, ev, k⟩ := h
  obtain ⟨c1, B1, h1, h2⟩ := dIf_some ev
  refine ⟨G, env, B, c1, B1, s, h1, fun G1 H1 fr ex bg => ⟨G1, env, B1, c, B', s.step fr ex bg, ?_, fun G2 H2 fr2 ex2 bg2 => k G2 H2 (fr.trans fr2 bg2.1) ex2 bg2⟩⟩
  cases c1 with
  | true =>
    rw [if_pos rfl] at h2 ⊢
    exact h2
  | false =>
    rw [if_neg Bool.false_ne_true] at h2 ⊢
    exact h2
theorem pdw_and {es : List Expr} (h1 : PDT X b e1 f1) (h2 : PDW X b (.BoolOp .And (e2 :: es) pos) f2) : PDW X b (.BoolOp .And (e1 :: e2 :: es) pos) (dAnd f1 f2) := PW.imp (pw_and h1 h2) fun σ H Q h => by
  rw [dAnd_eq] at h
  have q := tDT_if (tt := fun _ _ _ => True) h (fun _ _ _ _ => trivial)
  obtain ⟨G, env, B, c, B', s, ev, k⟩ := q
  refine ⟨G, env, B, c, B', s, ev, fun G1 H1 fr ex bg => ?_⟩
  have z := k G1 H1 fr ex bg
  show (if c = true then tDT X.K b f2 σ H1 Q else Q false H1)
  cases c with
  | true =>
    rw [if_pos rfl] at z ⊢
    exact z
  | false =>
    rw [if_neg Bool.false_ne_true] at z ⊢
    obtain ⟨G2, env2, B2, c2, B3, s2, ev2, k2⟩ := z
    cases ev2
    exact k2 G2 H1 Frm.refl s2.ex s2.bag
theorem pdw_or {es : List Expr} (h1 : PDT X b e1 f1) (h2 : PDW X b (.BoolOp .Or (e2 :: es) pos) f2) : PDW X b (.BoolOp .Or (e1 :: e2 :: es) pos) (dOr f1 f2) := PW.imp (pw_or h1 h2) fun σ H Q h => by
  rw [dOr_eq] at h
  have q := tDT_if (tt := fun _ _ _ => True) h (fun _ _ _ _ => trivial)
  obtain ⟨G, env, B, c, B', s, ev, k⟩ := q
  refine ⟨G, env, B, c, B', s, ev, fun G1 H1 fr ex bg => ?_⟩
  have z := k G1 H1 fr ex bg
  show (if c = true then Q true H1 else tDT X.K b f2 σ H1 Q)
  cases c with
  | true =>
    rw [if_pos rfl] at z ⊢
    obtain ⟨G2, env2, B2, c2, B3, s2, ev2, k2⟩ := z
    cases ev2
    exact k2 G2 H1 Frm.refl s2.ex s2.bag
  | false =>
    rw [if_neg Bool.false_ne_true] at z ⊢
    exact z
theorem pdw_and1 (h1 : PDT X b e1 f1) : PDW X b (.BoolOp .And [e1] pos) f1 := pw_and1 h1
theorem pdw_or1 (h1 : PDT X b e1 f1) : PDW X b (.BoolOp .Or [e1] pos) f1 := pw_or1 h1
theorem pdt_not (h1 : PDT X b e1 f1) : PDT X b (.UnaryOp .Not e1 pos) (dUn gNot f1) := PT.imp (pt_not h1) fun σ H Q ⟨G, env, B, c, B', s, ev, k⟩ => by
  obtain ⟨a, h1, h3⟩ := dUn_some ev
  cases a with
  | bool c1 =>
    cases h3
    exact ⟨G, env, B, c1, B', s, h1, fun G1 H1 fr ex bg => k G1 H1 fr ex bg⟩
  | _ => cases h3
/-- as values: all but the last are True or False -/
theorem pd_one {op : BoolOp} (h : PD X b e f) : PD X b (.BoolOp op [e] pos) f := pe_one h
theorem pd_and {es : List Expr} (h1 : PD X b e1 f1) (h2 : PD X b (.BoolOp .And (e2 :: es) pos) f2) : PD X b (.BoolOp .And (e1 :: e2 :: es) pos) (dAnd f1 f2) := PE.imp (pe_and h1 h2) fun σ H Q ⟨G, env, B, d, B', s, ev, k⟩ => by
  rw [dAnd_eq] at ev
  obtain ⟨c, B1, h1, h2⟩ := dIf_some ev
  refine ⟨G, env, B, .bool c, B1, s, h1, fun v G1 H1 fr ex bg is1 => ?_⟩
  cases is1
  refine ⟨c, rfl, ?_⟩
  cases c with
  | true =>
    rw [if_pos rfl] at h2 ⊢
    exact ⟨G1, env, B1, d, B', s.step fr ex bg, h2, k.go fr⟩
  | false =>
    rw [if_neg Bool.false_ne_true] at h2 ⊢
    cases h2
    exact (k.go fr).val ex bg (.bl false)
theorem pd_or {es : List Expr} (h1 : PD X b e1 f1) (h2 : PD X b (.BoolOp .Or (e2 :: es) pos) f2) : PD X b (.BoolOp .Or (e1 :: e2 :: es) pos) (dOr f1 f2) := PE.imp (pe_or h1 h2) fun σ H Q ⟨G, env, B, d, B', s, ev, k⟩ => by
  rw [dOr_eq] at ev
  obtain ⟨c, B1, h1, h2⟩ := dIf_some ev
  refine ⟨G, env, B, .bool c, B1, s, h1, fun v G1 H1 fr ex bg is1 => ?_⟩
  cases is1
  refine ⟨c, rfl, ?_⟩
  cases c with
  | true =>
    rw [if_pos rfl] at h2 ⊢
    cases h2
    exact (k.go fr).val ex bg (.bl true)
  | false =>
    rw [if_neg Bool.false_ne_true] at h2 ⊢
    exact ⟨G1, env, B1, d, B', s.step fr ex bg, h2, k.go fr⟩
theorem pd_not (h : PD X b e f) : PD X b (.UnaryOp .Not e pos) (dUn gNot f) := PE.imp (pe_not h) fun σ H Q ⟨G, env, B, d, B', s, ev, k⟩ => by
  obtain ⟨a, h1, h3⟩ := dUn_some ev
  refine ⟨G, env, B, a, B', s, h1, fun v G1 H1 fr ex bg is1 => ?_⟩
  cases a with
  | bool c1 =>
    cases h3
    cases is1
    exact ⟨c1, rfl, (k.go fr).val ex bg (.bl _)⟩
  | _ => cases h3

/-! ### argument lists -/
/-- what is handed over: a datum, or the bag -/
inductive Ar where
  | d (d : PyData) | bag
inductive DAr where
  | e (f : DE) | bag (i : Nat)
def IsA (K : PySem.W.Frag) (b : Addr) (G : Hp) (v : V) : Ar → Prop
  | .d d => Is K G v d
  | .bag => v = .ref b
inductive IsAs (K : PySem.W.Frag) (b : Addr) (G : Hp) : List V → List Ar → Prop
  | nil : IsAs K b G [] []
  | cons {v : V} {vs : List V} {a : Ar} {as : List Ar} : IsA K b G v a → IsAs K b G vs as → IsAs K b G (v :: vs) (a :: as)
theorem IsA.mono {K : PySem.W.Frag} {b : Addr} {G G' : Hp} {v : V} (e : Ex G G') : ∀ {a : Ar}, IsA K b G v a → IsA K b G' v a
  | .d _, h => Is.mono e h
  | .bag, h => h
theorem IsAs.len {K : PySem.W.Frag} {b : Addr} {G : Hp} : ∀ {vs : List V} {as : List Ar}, IsAs K b G vs as → vs.length = as.length
  | _, _, .nil => rfl
  | _, _, .cons _ r => by rw [List.length_cons, List.length_cons, IsAs.len r]
abbrev DA := Env → Bg → Option (List Ar × Bg)
def DAr.ev : DAr → Env → Bg → Option (Ar × Bg)
  | .e f, env, B => (f env B).map fun p => (.d p.1, p.2)
  | .bag i, env, B => match env[i]? with
    | some .bag => some (.bag, B)
    | _ => none
def dArgs : List DAr → DA
  | [], _, B => some ([], B)
  | a :: as, env, B => (a.ev env B).bind fun p => (dArgs as env p.2).map fun q => (p.1 :: q.1, q.2)
def tDA (K : PySem.W.Frag) (b : Addr) (as : DA) : TA := fun σ H Q => ∃ G env B xs B', St K b G σ H env B ∧ as env B = some (xs, B') ∧ ∀ vs G' H', Frm b G H G' H' → Ex G' H' → BagAt b G' H' B' → IsAs K b G' vs xs → Q vs H'
def PDA (X : Cx) (b : Addr) (es : List Expr) (as : List DAr) : Prop := PA X es (tDA X.K b (dArgs as))
theorem pda_nil : PDA X b [] [] := PA.imp pa_nil fun σ H Q ⟨G, env, B, xs, B', s, ev, k⟩ => by
  cases ev
  exact k [] G H Frm.refl s.ex s.bag .nil
theorem dArgs_cons {a : DAr} {as : List DAr} {env : Env} {B B' : Bg} {xs : List Ar} (h : dArgs (a :: as) env B = some (xs, B')) : ∃ x B1 ys, a.ev env B = some (x, B1) ∧ dArgs as env B1 = some (ys, B') ∧ xs = x :: ys := by
  unfold dArgs at h
  cases h1 : a.ev env B with
  | none => rw [h1] at h; cases h
  | some p =>
    rw [h1, Option.bind_some] at h
    cases h2 : dArgs as env p.2 with
    | none => rw [h2] at h; cases h
    | some q =>
      rw [h2] at h
      cases h
      exact ⟨p.1, p.2, q.1, rfl, h2, rfl⟩
theorem pda_cons {es : List Expr} {as : List DAr} (h1 : PD X b e f) (h2 : PDA X b es as) (hs : starEach (e :: es) X.env = (false, eval e X.env) :: starEach es X.env := by rfl) : PDA X b (e :: es) (.e f :: as) :=
  PA.imp (pa_cons h1 h2 hs) fun σ H Q ⟨G, env, B, xs, B', s, ev, k⟩ => by
    obtain ⟨x, B1, ys, e1, e2, rfl⟩ := dArgs_cons ev
    have e1 : (f env B).map (fun p => (Ar.d p.1, p.2)) = some (x, B1) := e1
    cases h1 : f env B with
    | none => rw [h1] at e1; cases e1
    | some p =>
      rw [h1] at e1
      cases e1
      refine ⟨G, env, B, p.1, p.2, s, h1, fun v G1 H1 fr ex bg is1 => ?_⟩
      refine ⟨G1, env, p.2, ys, B', s.step fr ex bg, e2, fun vs G2 H2 fr2 ex2 bg2 is2 => ?_⟩
      exact k (v :: vs) G2 H2 (fr.trans fr2 bg2.1) ex2 bg2 (.cons (IsA.mono (a := .d p.1) fr2.ex is1) is2)
theorem pda_bag {es : List Expr} {as : List DAr} (i : Nat) (h1 : PE X e (tVar i)) (h2 : PDA X b es as) (hs : starEach (e :: es) X.env = (false, eval e X.env) :: starEach es X.env := by rfl) : PDA X b (e :: es) (.bag i :: as) :=
  PA.imp (pa_cons h1 h2 hs) fun σ H Q ⟨G, env, B, xs, B', s, ev, k⟩ => by
    obtain ⟨x, B1, ys, e1, e2, rfl⟩ := dArgs_cons ev
    unfold DAr.ev at e1
    dsimp only at e1
    split at e1
    · rename_i hb
      cases e1
      refine ⟨.ref b, s.sl i _ hb, G, env, B, ys, B', s, e2, fun vs G2 H2 fr2 ex2 bg2 is2 => ?_⟩
      exact k (.ref b :: vs) G2 H2 fr2 ex2 bg2 (.cons (a := .bag) rfl is2)
    · cases e1
/-- data alone -/
def arD : List Ar → Option (List PyData)
  | [] => some []
  | .d d :: as => (arD as).map fun ds => d :: ds
  | .bag :: _ => none
theorem arD_is {K : PySem.W.Frag} {G : Hp} : ∀ {vs : List V} {as : List Ar} {ds : List PyData}, IsAs K b G vs as → arD as = some ds → IsL K G vs ds
  | _, _, _, .nil, e => by
    cases e
    exact .nil
  | _, _, _, .cons (a := .d d) (as := as) h r, e => by
    unfold arD at e
    cases h2 : arD as with
    | none => rw [h2] at e; cases e
    | some es =>
      rw [h2] at e
      cases e
      exact .cons h (arD_is r h2)
  | _, _, _, .cons (a := .bag) h r, e => by cases e
/-- a built-in's call on data, a display -/
def dCB (g : List PyData → Option PyData) (as : List DAr) : DE := fun env B => (dArgs as env B).bind fun p => (arD p.1).bind fun ds => (g ds).map fun d => (d, p.2)
theorem dCB_some {g : List PyData → Option PyData} {as : List DAr} {env : Env} {B B' : Bg} {d : PyData} (h : dCB g as env B = some (d, B')) : ∃ xs ds, dArgs as env B = some (xs, B') ∧ arD xs = some ds ∧ g ds = some d := by
  unfold dCB at h
  cases h1 : dArgs as env B with
  | none => rw [h1] at h; cases h
  | some p =>
    rw [h1, Option.bind_some] at h
    cases h2 : arD p.1 with
    | none => rw [h2] at h; cases h
    | some ds =>
      rw [h2, Option.bind_some] at h
      cases h3 : g ds with
      | none => rw [h3] at h; cases h
      | some d' =>
        rw [h3] at h
        cases h
        exact ⟨p.1, ds, rfl, h2, h3⟩
theorem tD_cb {K : PySem.W.Frag} {r : List V → Hp → VK → Prop} {g : List PyData → Option PyData} {as : List DAr} (hr : RLD K r g) : ∀ σ H Q, tD K b (dCB g as) σ H Q → tCB r (tDA K b (dArgs as)) σ H Q := fun σ H Q ⟨G, env, B, d, B', s, ev, k⟩ => by
  obtain ⟨xs, ds, h1, h2, h3⟩ := dCB_some ev
  exact ⟨G, env, B, xs, B', s, h1, fun vs G1 H1 fr1 ex1 bg1 is1 => hr b G1 H1 vs ds d B' Q ex1 bg1 (arD_is is1 h2) h3 (k.go fr1)⟩
def gTuple : List PyData → Option PyData := fun ds => if ds.length ≤ 100000 then some (.tuple ds) else none
def gList : List PyData → Option PyData := fun ds => if ds.length ≤ 100000 then some (.list ds) else none
theorem pd_tup {es : List Expr} {as : List DAr} {x1} (h : PDA X b es as) : PD X b (.Tuple es x1 pos) (dCB gTuple as) := PE.imp (pe_tupN h) fun σ H Q ⟨G, env, B, d, B', s, ev, k⟩ => by
  obtain ⟨xs, ds, h1, h2, h3⟩ := dCB_some ev
  refine ⟨G, env, B, xs, B', s, h1, fun vs G1 H1 fr1 ex1 bg1 is1 => ?_⟩
  have q := arD_is is1 h2
  unfold gTuple at h3
  split at h3
  · cases h3
    exact ⟨sz_of (by rw [q.len]; assumption), (k.go fr1).tup ex1 bg1 q⟩
  · cases h3
theorem pd_lst {es : List Expr} {as : List DAr} (h : PDA X b es as) : PD X b (.List es pos) (dCB gList as) := PE.imp (pe_lst h) fun σ H Q ⟨G, env, B, d, B', s, ev, k⟩ => by
  obtain ⟨xs, ds, h1, h2, h3⟩ := dCB_some ev
  refine ⟨G, env, B, xs, B', s, h1, fun vs G1 H1 fr1 ex1 bg1 is1 => ?_⟩
  have q := arD_is is1 h2
  unfold gList at h3
  split at h3
  · cases h3
    refine ⟨sz_of (by rw [q.len]; assumption), fun p hp => (k.go fr1).lst ex1 bg1 hp q⟩
  · cases h3
end
end Dl

/-! DB: targets, what a for walks, comprehensions, statements, defs and their calls. -/
namespace Dl
open PySem L2 Evl

/-! ### names' places -/
theorem wipe_get (σ : L2.St) : ∀ (vs : List Nat) (j : Nat), (wipe σ vs)[j]? = if j ∈ vs ∧ j < σ.length then some none else σ[j]?
  | [], j => by simp [wipe]
  | v :: vs, j => by
    unfold wipe
    rw [List.getElem?_set, wipe_length, wipe_get σ vs j]
    by_cases h : v = j
    · subst h
      rw [if_pos rfl]
      by_cases hl : v < σ.length
      · rw [if_pos hl, if_pos ⟨List.mem_cons_self, hl⟩]
      · rw [if_neg hl, if_neg (fun z => hl z.2)]
        exact (List.getElem?_eq_none (by omega)).symm
    · rw [if_neg h]
      have e : (j ∈ v :: vs ∧ j < σ.length) ↔ (j ∈ vs ∧ j < σ.length) := by
        rw [List.mem_cons]
        exact ⟨fun ⟨a, c⟩ => ⟨a.resolve_left (fun z => h z.symm), c⟩, fun ⟨a, c⟩ => ⟨.inr a, c⟩⟩
      by_cases q : j ∈ vs ∧ j < σ.length
      · rw [if_pos q, if_pos (e.mpr q)]
      · rw [if_neg q, if_neg (fun z => q (e.mp z))]
theorem wipe_set {σ : L2.St} {vs : List Nat} {i : Nat} {x : Option V} (h : i ∈ vs) : wipe (σ.set i x) vs = wipe σ vs := by
  apply List.ext_getElem?
  intro j
  rw [wipe_get, wipe_get, List.length_set]
  by_cases q : j ∈ vs ∧ j < σ.length
  · rw [if_pos q, if_pos q]
  · rw [if_neg q, if_neg q, List.getElem?_set]
    by_cases e : i = j
    · subst e
      have hl : ¬ i < σ.length := fun z => q ⟨h, z⟩
      rw [if_pos rfl, if_neg hl]
      exact (List.getElem?_eq_none (by omega)).symm
    · rw [if_neg e]
theorem wipe_idem {σ : L2.St} {vs : List Nat} : wipe (wipe σ vs) vs = wipe σ vs := by
  apply List.ext_getElem?
  intro j
  rw [wipe_get, wipe_length]
  by_cases q : j ∈ vs ∧ j < σ.length
  · rw [if_pos q, wipe_get, if_pos q]
  · rw [if_neg q]
/-- the same of data -/
def wipeE (env : Env) : List Nat → Env
  | [] => env
  | v :: vs => (wipeE env vs).set v .no
theorem wipeE_len (env : Env) : ∀ vs, (wipeE env vs).length = env.length
  | [] => rfl
  | v :: vs => by
    unfold wipeE
    rw [List.length_set]
    exact wipeE_len env vs

section
variable {K : PySem.W.Frag} {b : Addr} {G G' H H' : Hp} {σ : L2.St} {env : Env} {B B' : Bg}
theorem St.put {i : Nat} {v : V} {d : PyData} (x : St K b G σ H env B) (h : Is K G v d) : St K b G (σ.set i (some v)) H (env.set i (.sh d)) B where
  ex := x.ex
  bag := x.bag
  len := by rw [List.length_set, List.length_set]; exact x.len
  sl := fun j s e => by
    rw [List.getElem?_set] at e ⊢
    by_cases q : i = j
    · rw [if_pos q] at e ⊢
      split at e
      · rename_i hl
        cases e
        rw [x.len] at hl
        rw [if_pos hl]
        exact ⟨v, rfl, h⟩
      · cases e
    · rw [if_neg q] at e ⊢
      exact x.sl j s e
  dis := fun j k ds es p e1 e2 s1 s2 => by
    rw [List.getElem?_set] at e1 e2 s1 s2
    by_cases q1 : i = j
    · rw [if_pos q1] at e1
      split at e1 <;> cases e1
    · by_cases q2 : i = k
      · rw [if_pos q2] at e2
        split at e2 <;> cases e2
      · rw [if_neg q1] at e1 s1
        rw [if_neg q2] at e2 s2
        exact x.dis j k ds es p e1 e2 s1 s2
theorem St.drop {i : Nat} {v : Option V} (x : St K b G σ H env B) : St K b G (σ.set i v) H (env.set i .no) B where
  ex := x.ex
  bag := x.bag
  len := by rw [List.length_set, List.length_set]; exact x.len
  sl := fun j s e => by
    rw [List.getElem?_set] at e ⊢
    by_cases q : i = j
    · rw [if_pos q] at e
      split at e
      · cases e
        trivial
      · cases e
    · rw [if_neg q] at e ⊢
      exact x.sl j s e
  dis := fun j k ds es p e1 e2 s1 s2 => by
    rw [List.getElem?_set] at e1 e2 s1 s2
    by_cases q1 : i = j
    · rw [if_pos q1] at e1
      split at e1 <;> cases e1
    · by_cases q2 : i = k
      · rw [if_pos q2] at e2
        split at e2 <;> cases e2
      · rw [if_neg q1] at e1 s1
        rw [if_neg q2] at e2 s2
        exact x.dis j k ds es p e1 e2 s1 s2
theorem St.wipe (x : St K b G σ H env B) : ∀ vs : List Nat, St K b G (L2.wipe σ vs) H (wipeE env vs) B
  | [] => x
  | v :: vs => (St.wipe x vs).drop
end

/-! ### targets -/
abbrev DG := PyData → Env → Option Env
def tDG (K : PySem.W.Frag) (b : Addr) (g : DG) (js : List Nat) : TG := fun v σ H Q => ∃ G env B d env', St K b G σ H env B ∧ Is K G v d ∧ g d env = some env' ∧ ∀ σ', (∀ vs : List Nat, (∀ j ∈ js, j ∈ vs) → wipe σ' vs = wipe σ vs) → St K b G σ' H env' B → Q σ' H
def PDG (X : Cx) (b : Addr) (tg : Expr) (g : DG) (js : List Nat) : Prop := PG X tg (tDG X.K b g js)
abbrev DGs := List PyData → Env → Option Env
def tDGs (K : PySem.W.Frag) (b : Addr) (g : DGs) (js : List Nat) : TGs := fun vs σ H Q => ∃ G env B ds env', St K b G σ H env B ∧ IsL K G vs ds ∧ g ds env = some env' ∧ ∀ σ', (∀ vs : List Nat, (∀ j ∈ js, j ∈ vs) → wipe σ' vs = wipe σ vs) → St K b G σ' H env' B → Q σ' H
def PDGs (X : Cx) (b : Addr) (tgs : List Expr) (g : DGs) (js : List Nat) : Prop := PGs X tgs (tDGs X.K b g js)
theorem PGs.imp {X : Cx} {tg : List Expr} {t t' : TGs} (h : PGs X tg t) (i : ∀ v σ H Q, t' v σ H Q → t v σ H Q) : PGs X tg t' := ⟨fun pins s σ H v u Q I r q => h.run pins s σ H v u Q I r (i v σ H Q q)⟩
section
variable {X : Cx} {b : Addr} {pos : Pos}
def gOne (i : Nat) : DG := fun d env => some (env.set i (.sh d))
theorem pdg_name (i : Nat) {x : Str} (h : PG X (.Name x pos) (gName i)) : PDG X b (.Name x pos) (gOne i) [i] := PG.imp h fun v σ H Q ⟨G, env, B, d, env', s, is, ev, k⟩ => by
  cases ev
  exact k _ (fun vs hv => wipe_set (hv i (by simp))) (s.put is)
def gsNil : DGs := fun ds env => match ds with
  | [] => some env
  | _ => none
def gsCons (g : DG) (r : DGs) : DGs := fun ds env => match ds with
  | d :: ds => (g d env).bind fun e => r ds e
  | [] => none
theorem pdgs_nil : PDGs X b [] gsNil [] := PGs.imp pgs_nil fun v σ H Q ⟨G, env, B, ds, env', s, is, ev, k⟩ => by
  cases is with
  | nil =>
    cases ev
    exact ⟨rfl, k σ (fun _ _ => rfl) s⟩
  | cons _ _ => cases ev
theorem pdgs_cons {e : Expr} {es : List Expr} {g : DG} {r : DGs} {js ks : List Nat} (h1 : PDG X b e g js) (h2 : PDGs X b es r ks) (hs : (assignEach (e :: es) X.env).map (·.2) = assign e X.env :: (assignEach es X.env).map (·.2) := by rfl) : PDGs X b (e :: es) (gsCons g r) (js ++ ks) :=
  PGs.imp (pgs_cons h1 h2 hs) fun v σ H Q ⟨G, env, B, ds, env', s, is, ev, k⟩ => by
    cases is with
    | nil => cases ev
    | @cons v1 vr d1 dr i1 i2 =>
      have ev : (g d1 env).bind (fun e => r dr e) = some env' := ev
      cases h : g d1 env with
      | none => rw [h] at ev; cases ev
      | some e1 =>
        rw [h, Option.bind_some] at ev
        refine ⟨v1, vr, rfl, G, env, B, d1, e1, s, i1, h, fun σ1 w1 s1 => ?_⟩
        exact ⟨G, e1, B, dr, env', s1, i2, ev, fun σ2 w2 s2 => k σ2 (fun vs hv => (w2 vs fun j hj => hv j (List.mem_append_right _ hj)).trans (w1 vs fun j hj => hv j (List.mem_append_left _ hj))) s2⟩
def gTup (n : Nat) (r : DGs) : DG := fun d env => match d with
  | .tuple ds => if ds.length = n then r ds env else none
  | _ => none
theorem pdg_tup {es : List Expr} {k : Nat} {r : DGs} {js : List Nat} {n : Nat} (hc : X.calm = true) (h : PDGs X b es r js) (hn : (assignEach es X.env).length = n := by rfl) (hst : (assignEach es X.env).findIdx? (·.1) = none := by rfl) : PDG X b (.Tuple es k pos) (gTup n r) js :=
  PG.imp (pg_tup hc h hn hst) fun v σ H Q ⟨G, env, B, d, env', s, is, ev, kk⟩ => by
    cases is with
    | @tup a xs ds ht hl =>
      have ev : (if ds.length = n then r ds env else none) = some env' := ev
      split at ev
      · exact ⟨a, xs, rfl, ex_t s.ex ht.sq, by rw [hl.len]; assumption, G, env, B, ds, env', s, hl, ev, kk⟩
      · cases ev
    | _ => cases ev
end

/-! ### what a for walks -/
/-- the things that come, in their turns, whatever is done between that keeps data -/
def ItOk (K : PySem.W.Frag) (b : Addr) (G : Hp) (J : It) (ds : List PyData) : Prop := ∀ (i : Nat) (G1 H1 : Hp) (B : Bg), Ex G G1 → Ex G1 H1 → BagAt b G1 H1 B →
  (ds.length ≤ i → J.stop i H1) ∧ ∀ d, ds[i]? = some d → J.go i H1 ∧ ∀ x H2, J.yld i H1 x H2 → ∃ G2, Frm b G1 H1 G2 H2 ∧ Ex G2 H2 ∧ BagAt b G2 H2 B ∧ Is K G2 x d
abbrev DI := Env → Bg → Option (List PyData × Bg)
def tDI (K : PySem.W.Frag) (b : Addr) (f : DI) : TI := fun σ H R => ∃ G env B ds B', St K b G σ H env B ∧ f env B = some (ds, B') ∧ ∀ J G' H', Frm b G H G' H' → Ex G' H' → BagAt b G' H' B' → ItOk K b G' J ds → R J H'
def PDI (X : Cx) (b : Addr) (tg e : Expr) (f : DI) : Prop := PI X tg e (tDI X.K b f)
theorem ItOk.mono {K : PySem.W.Frag} {b : Addr} {G G' : Hp} {J : It} {ds : List PyData} (h : ItOk K b G J ds) (e : Ex G G') : ItOk K b G' J ds := fun i G1 H1 B e1 e2 g => h i G1 H1 B (e.trans e1) e2 g
section
variable {K : PySem.W.Frag} {b : Addr} {G : Hp} {a : Addr} {xs : List V} {ds : List PyData}
theorem itOk_list (h : G a = some (.lst xs)) (hl : IsL K G xs ds) : ItOk K b G (Itl K a) ds := fun i G1 H1 B e1 e2 g => by
  have q : SqL K H1 a xs := sq_of (e2 a _ (e1 a _ h))
  refine ⟨fun hi => ⟨xs, q, by rw [hl.len]; exact hi⟩, fun d hd => ?_⟩
  obtain ⟨v, hv, is⟩ := hl.get hd
  refine ⟨⟨xs, v, q, hv⟩, fun x H2 y => ?_⟩
  obtain ⟨rfl, y⟩ := y
  have z := y xs q
  rw [hv] at z
  cases z
  exact ⟨G1, Frm.refl, e2, g, is.mono e1⟩
theorem itOk_tup (h : SqT K G a xs) (hl : IsL K G xs ds) : ItOk K b G (Itt K a) ds := fun i G1 H1 B e1 e2 g => by
  have q : SqT K H1 a xs := ex_t (e1.trans e2) h
  refine ⟨fun hi => ⟨xs, q, by rw [hl.len]; exact hi⟩, fun d hd => ?_⟩
  obtain ⟨v, hv, is⟩ := hl.get hd
  refine ⟨⟨xs, v, q, hv⟩, fun x H2 y => ?_⟩
  obtain ⟨rfl, y⟩ := y
  have z := y xs q
  rw [hv] at z
  cases z
  exact ⟨G1, Frm.refl, e2, g, is.mono e1⟩
def rngD (lo : Int) (n : Nat) : List PyData := (List.range n).map fun i => .int (lo + (i : Nat))
theorem rngD_len {lo : Int} {n : Nat} : (rngD lo n).length = n := by unfold rngD; rw [List.length_map, List.length_range]
theorem itOk_rng {lo : Int} {n : Nat} : ItOk K b G (Itr lo n) (rngD lo n) := fun i G1 H1 B e1 e2 g => by
  refine ⟨fun hi => by rw [rngD_len] at hi; exact hi, fun d hd => ?_⟩
  have hi : i < n := by
    have := (List.getElem?_eq_some_iff.mp hd).1
    rw [rngD_len] at this
    exact this
  unfold rngD at hd
  rw [List.getElem?_map, List.getElem?_range hi] at hd
  cases hd
  refine ⟨hi, fun x H2 y => ?_⟩
  obtain ⟨rfl, rfl⟩ := y
  exact ⟨G1, Frm.refl, e2, g, .int _⟩
end
section
variable {X : Cx} {b : Addr} {pos : Pos} {e tg : Expr} {f : DE}
/-- over a list; over a tuple -/
def iL (f : DE) : DI := fun env B => (f env B).bind fun p => match p.1 with
  | .list ds => some (ds, p.2)
  | _ => none
def iT (f : DE) : DI := fun env B => (f env B).bind fun p => match p.1 with
  | .tuple ds => some (ds, p.2)
  | _ => none
theorem pdi_list (h : PD X b e f) : PDI X b tg e (iL f) := PI.imp (pi_list h) fun σ H R ⟨G, env, B, ds, B', s, ev, k⟩ => by
  unfold iL at ev
  cases h1 : f env B with
  | none => rw [h1] at ev; cases ev
  | some p =>
    obtain ⟨a, B1⟩ := p
    rw [h1, Option.bind_some] at ev
    dsimp only at ev
    split at ev
    · cases ev
      refine ⟨G, env, B, _, B', s, h1, fun v G1 H1 fr ex bg is => ?_⟩
      cases is with
      | lst ha hl => exact ⟨_, rfl, ⟨_, sq_of (ex _ _ ha)⟩, k _ G1 H1 fr ex bg (itOk_list ha hl)⟩
    · cases ev
theorem pdi_tup (h : PD X b e f) : PDI X b tg e (iT f) := PI.imp (pi_tup h) fun σ H R ⟨G, env, B, ds, B', s, ev, k⟩ => by
  unfold iT at ev
  cases h1 : f env B with
  | none => rw [h1] at ev; cases ev
  | some p =>
    obtain ⟨a, B1⟩ := p
    rw [h1, Option.bind_some] at ev
    dsimp only at ev
    split at ev
    · cases ev
      refine ⟨G, env, B, _, B', s, h1, fun v G1 H1 fr ex bg is => ?_⟩
      cases is with
      | tup ha hl => exact ⟨_, rfl, ⟨_, ex_t ex ha.sq⟩, k _ G1 H1 fr ex bg (itOk_tup ha.sq hl)⟩
    · cases ev
def iR1 (f : DE) : DI := fun env B => (f env B).bind fun p => match p.1 with
  | .int n => if n ≤ 100000 ∧ -100000 ≤ n then some (rngD 0 n.toNat, p.2) else none
  | _ => none
theorem pdi_range1 {p : Pos} (hg : Gl X "range") (hm : X.mg "range" = none) (h : PD X b e f) (hs : starEach [e] X.env = [(false, eval e X.env)] := by rfl) : PDI X b tg (.Call (.Name "range" p) [e] [] pos) (iR1 f) :=
  PI.imp (pi_range1 hg hm (pa_cons h pa_nil (by rw [hs]; rfl)) hs) fun σ H R ⟨G, env, B, ds, B', s, ev, k⟩ => by
    unfold iR1 at ev
    cases h1 : f env B with
    | none => rw [h1] at ev; cases ev
    | some p =>
      obtain ⟨a, B1⟩ := p
      rw [h1, Option.bind_some] at ev
      dsimp only at ev
      split at ev
      · split at ev
        · rename_i n hn
          cases ev
          refine ⟨G, env, B, _, B', s, h1, fun v G1 H1 fr ex bg is => ?_⟩
          cases is
          exact ⟨n, rfl, by omega, by omega, k _ G1 H1 fr ex bg itOk_rng⟩
        · cases ev
      · cases ev

/-! ### list comprehensions -/
def lcGo (tg : DG) (c f : DE) (env : Env) : List PyData → Bg → Option (List PyData × Bg)
  | [], B => some ([], B)
  | d :: ds, B => (tg d env).bind fun e1 => (c e1 B).bind fun p => match p.1 with
    | .bool true => (f e1 p.2).bind fun q => (lcGo tg c f env ds q.2).map fun r => (q.1 :: r.1, r.2)
    | .bool false => lcGo tg c f env ds p.2
    | _ => none
def dLc (fi : DI) (tg : DG) (c f : DE) (vs : List Nat) : DE := fun env B => (fi env B).bind fun p => if p.1.length ≤ 100000 then (lcGo tg c f (wipeE env vs) p.1 p.2).map fun q => (.list q.1, q.2) else none
theorem lcGo_cons {tg : DG} {c f : DE} {env : Env} {d : PyData} {ds es : List PyData} {B B' : Bg} (h : lcGo tg c f env (d :: ds) B = some (es, B')) : ∃ e1 t B1, tg d env = some e1 ∧ c e1 B = some (.bool t, B1) ∧
    (if t = true then ∃ y B2 rs, f e1 B1 = some (y, B2) ∧ lcGo tg c f env ds B2 = some (rs, B') ∧ es = y :: rs else lcGo tg c f env ds B1 = some (es, B')) := by
  unfold lcGo at h
  cases h1 : tg d env with
  | none => rw [h1] at h; cases h
  | some e1 =>
    rw [h1, Option.bind_some] at h
    cases h2 : c e1 B with
    | none => rw [h2] at h; cases h
    | some p =>
      obtain ⟨a, B1⟩ := p
      rw [h2, Option.bind_some] at h
      dsimp only at h
      split at h
      · cases h3 : f e1 B1 with
        | none => rw [h3] at h; cases h
        | some q =>
          rw [h3, Option.bind_some] at h
          cases h4 : lcGo tg c f env ds q.2 with
          | none => rw [h4] at h; cases h
          | some r =>
            rw [h4] at h
            cases h
            exact ⟨e1, true, B1, rfl, h2, by rw [if_pos rfl]; exact ⟨q.1, q.2, r.1, h3, h4, rfl⟩⟩
      · exact ⟨e1, false, B1, rfl, h2, by rw [if_neg Bool.false_ne_true]; exact h⟩
      · cases h
/-- what a comprehension's loop keeps -/
structure LcInv (K : PySem.W.Frag) (b D : Addr) (G0 H0 G H : Hp) (B : Bg) (acc : List V) (ads : List PyData) : Prop where
  frm : Frm b G0 H0 G H
  ex : Ex G H
  no : G D = none
  bag : BagAt b G H B
  at' : H D = some (.lst acc)
  is : IsL K G acc ads
theorem LcInv.step {K : PySem.W.Frag} {b D : Addr} {G0 H0 G H G' H' : Hp} {B B' : Bg} {acc : List V} {ads : List PyData} (x : LcInv K b D G0 H0 G H B acc ads) (hD : D ≠ b) (f : Frm b G H G' H') (e : Ex G' H') (g : BagAt b G' H' B') : LcInv K b D G0 H0 G' H' B' acc ads :=
  ⟨x.frm.trans f g.1, e, f.hide D _ x.at' x.no, g, f.keep D _ x.at' hD, x.is.mono f.ex⟩
theorem LcInv.push {K : PySem.W.Frag} {b D : Addr} {G0 H0 G H : Hp} {B : Bg} {acc : List V} {ads : List PyData} {y : V} {d : PyData} (x : LcInv K b D G0 H0 G H B acc ads) (hD : D ≠ b) (h0 : H0 D = none) (i : Is K G y d) : LcInv K b D G0 H0 G (upd H D (.lst (acc ++ [y]))) B (acc ++ [y]) (ads ++ [d]) where
  frm := ⟨x.frm.ex, fun a o h n => by rw [upd_ne (ne_of_none h h0)]; exact x.frm.keep a o h n, x.frm.hide, fun c h => (x.frm.cell c h).ne hD⟩
  ex := fun a o h => by
    rw [upd_ne (ne_of_none h x.no)]
    exact x.ex a o h
  no := x.no
  bag := by
    obtain ⟨h1, c, h2, h3⟩ := x.bag
    exact ⟨h1, c, by rw [upd_ne hD.symm]; exact h2, h3⟩
  at' := upd_same
  is := x.is.append (.one i)
theorem tD_lc {K : PySem.W.Frag} {fi : DI} {tg : DG} {js vs : List Nat} {c f : DE} (hj : ∀ j ∈ js, j ∈ vs) : ∀ σ H Q, tD K b (dLc fi tg c f vs) σ H Q → tLc (tDI K b fi) (tDG K b tg js) (tDT K b c) (tD K b f) vs σ H Q := fun σ H Q ⟨G, env, B, d, B', s, ev, k⟩ => by
  unfold dLc at ev
  cases h1 : fi env B with
  | none => rw [h1] at ev; cases ev
  | some p =>
    obtain ⟨ds, B1⟩ := p
    rw [h1, Option.bind_some] at ev
    dsimp only at ev
    split at ev
    · rename_i hsz
      cases h2 : lcGo tg c f (wipeE env vs) ds B1 with
      | none => rw [h2] at ev; cases ev
      | some q =>
        obtain ⟨es, B2⟩ := q
        rw [h2] at ev
        simp only [Option.map_some, Option.some.injEq, Prod.mk.injEq] at ev
        obtain ⟨rfl, rfl⟩ := ev
        refine ⟨G, env, B, ds, B1, s, h1, fun J G1 H1 fr1 ex1 bg1 it => ?_⟩
        intro D hDn
        have hDb : D ≠ b := fun e => by
          obtain ⟨o, ho⟩ := bg1.at
          rw [← e, hDn] at ho
          cases ho
        have s1 := (s.step fr1 ex1 bg1).wipe vs
        have gD : G1 D = none := ex_none ex1 hDn
        refine ⟨fun i m H => m = ds.length - i ∧ i ≤ ds.length ∧ ∃ G2 B3 acc ads rest, LcInv K b D G1 H1 G2 H B3 acc ads ∧ ads.length ≤ i ∧ lcGo tg c f (wipeE env vs) (ds.drop i) B3 = some (rest, B2) ∧ es = ads ++ rest, ⟨ds.length, rfl, Nat.zero_le _, G1, B1, [], [], es, ?_, Nat.le_refl _, by simpa using h2, rfl⟩, ?_⟩
        · exact ⟨⟨Ex.refl _, fun a o h _ => by rw [upd_ne (ne_of_none h hDn)]; exact h, fun _ _ _ n => n, fun c h => h.new hDn⟩, ex1.trans (Ex.new hDn), gD, by
            obtain ⟨h1, c, h2, h3⟩ := bg1
            exact ⟨h1, c, by rw [upd_ne hDb.symm]; exact h2, h3⟩, upd_same, .nil⟩
        · rintro i m H' ⟨rfl, hi, G2, B3, acc, ads, rest, L, hn, hr, he⟩
          obtain ⟨z1, z2⟩ := it i G2 H' B3 L.frm.ex L.ex L.bag
          by_cases hlt : i < ds.length
          · have hd : ds[i]? = some ds[i] := List.getElem?_eq_getElem hlt
            obtain ⟨go, yl⟩ := z2 _ hd
            rw [List.drop_eq_getElem_cons hlt] at hr
            obtain ⟨e1, t, B4, hg, hc, ht⟩ := lcGo_cons hr
            refine .inr ⟨go, fun H => ∃ G2 B3 acc ads rest, LcInv K b D G1 H1 G2 H B3 acc ads ∧ ads.length ≤ i + 1 ∧ lcGo tg c f (wipeE env vs) (ds.drop (i + 1)) B3 = some (rest, B2) ∧ es = ads ++ rest, fun H3 hN => ⟨ds.length - (i + 1), by omega, rfl, hlt, hN⟩, fun x H3 y => ?_⟩
            obtain ⟨G3, fr3, ex3, bg3, is3⟩ := yl x H3 y
            have L3 := L.step hDb fr3 ex3 bg3
            have s3 : St K b G3 (wipe σ vs) H3 (wipeE env vs) B3 := s1.step (L.frm.trans fr3 bg3.1) ex3 bg3
            refine ⟨G3, wipeE env vs, B3, ds[i], e1, s3, is3, hg, fun σ2 w2 s4 => ?_⟩
            refine ⟨(w2 vs hj).trans wipe_idem, G3, e1, B3, t, B4, s4, hc, fun G4 H4 fr4 ex4 bg4 => ?_⟩
            have L4 := L3.step hDb fr4 ex4 bg4
            cases t with
            | true =>
              rw [if_pos rfl] at ht
              obtain ⟨y1, B5, rs, hf, hr5, rfl⟩ := ht
              refine iteT ?_
              refine ⟨G4, e1, B4, y1, B5, s4.step fr4 ex4 bg4, hf, fun v G5 H5 fr5 ex5 bg5 is5 => ?_⟩
              have L5 := L4.step hDb fr5 ex5 bg5
              have hal : acc.length ≤ i := by rw [L.is.len]; exact hn
              exact ⟨acc, L5.at', sz_lt (by omega), G5, B5, acc ++ [v], ads ++ [y1], rs, L5.push hDb hDn is5, by rw [List.length_append]; show _ + 1 ≤ _; omega, hr5, by rw [he, List.append_assoc]; rfl⟩
            | false =>
              rw [if_neg Bool.false_ne_true] at ht
              refine iteF ?_
              exact ⟨G4, B4, acc, ads, rest, L4, by omega, ht, he⟩
          · refine .inl ⟨z1 (by omega), ?_⟩
            rw [List.drop_eq_nil_of_le (by omega)] at hr
            cases hr
            rw [List.append_nil] at he
            subst he
            have gD2 : G2 D = none := L.no
            refine k (.ref D) (upd G2 D (.lst acc)) H' ⟨fr1.ex.trans (L.frm.ex.trans (Ex.new gD2)), fun a o h n => L.frm.keep a o (fr1.keep a o h n) n, fun a o h n => ?_, fun c h => L.frm.cell c (fr1.cell c h)⟩ (fun a o h => ?_) ⟨?_, ?_⟩ (.lst upd_same (L.is.mono (Ex.new gD2)))
            · have h' : a ≠ D := by
                intro e
                subst e
                by_cases hab : a = b
                · exact hDb hab
                · have := fr1.keep a o h hab
                  rw [hDn] at this
                  cases this
              rw [upd_ne h']
              by_cases hab : a = b
              · rw [hab]; exact L.bag.1
              · exact L.frm.hide a o (fr1.keep a o h hab) (fr1.hide a o h n)
            · by_cases e : a = D
              · subst e
                rw [upd_same] at h
                cases h
                exact L.at'
              · rw [upd_ne e] at h
                exact L.ex a o h
            · rw [upd_ne hDb.symm]; exact L.bag.1
            · obtain ⟨h1, c', h2, h3⟩ := L.bag
              exact ⟨c', h2, by rw [upd_ne (ne_of_none h3 gD2)]; exact h3⟩
    · cases ev
/-- the tests of a clause -/
def PDTs (X : Cx) (b : Addr) (ifs : List Expr) (c : DE) : Prop := PTs X ifs (tDT X.K b c)
def dYes : DE := dC (.bool true)
theorem pdts_nil : PDTs X b [] dYes := PTs.imp pts_nil fun σ H Q ⟨G, env, B, c, B', s, ev, k⟩ => by
  cases ev
  exact k G H Frm.refl s.ex s.bag
theorem pdts_one {c : Expr} (h : PDT X b c f) : PDTs X b [c] f := pts_one h
theorem pd_lc {elt iter : Expr} {ifs : List Expr} {scope : Scope} (own : List (Str × Nat)) {fi : DI} {g : DG} {js : List Nat} {c f : DE} (hc : X.calm = true) (hN : X.N.Nodup) (hi : PDI X b tg iter fi) (ok : BlkOk X.N X.env.scope scope own)
    (hg : ∀ (s : Shared) (H : Hp) (C : Addr) (cl : List (Str × Addr)) (fp : List Addr), PDG (X.blk s H scope (compEnvC scope cl C X.env) fp) b tg g js)
    (ht : ∀ (s : Shared) (H : Hp) (C : Addr) (cl : List (Str × Addr)) (fp : List Addr), PDTs (X.blk s H scope (compEnvC scope cl C X.env) fp) b ifs c)
    (he : ∀ (s : Shared) (H : Hp) (C : Addr) (cl : List (Str × Addr)) (fp : List Addr), PD (X.blk s H scope (compEnvC scope cl C X.env) fp) b elt f)
    (hj : ∀ j ∈ js, j ∈ own.map (·.2) := by decide) (hs : ∀ x, foldedSetIterable iter X.env x = pure x := by intro _; rfl) :
    PD X b (.ListComp elt [⟨tg, iter, ifs, 0⟩] scope pos) (dLc fi g c f (own.map (·.2))) := PE.imp (pe_lc (g := tDG X.K b g js) (tt := tDT X.K b c) (te := tD X.K b f) hc hN hi ok hg ht he hs) (tD_lc hj)
end
end Dl

/-! DC: statements, lists of one's own, loops, defs and their calls. -/
namespace Dl
open PySem L2 Evl

/-! ### new things, held by nobody -/
abbrev DEO := Env → Bg → Option (OC × Bg)
/-- what is wanted of a new thing, held by nobody -/
def PostO (K : PySem.W.Frag) (b : Addr) (G H : Hp) (c : OC) (B' : Bg) (Q : VK) : Prop := ∀ p o G' H', Frm b G H G' H' → Ex G' H' → BagAt b G' H' B' → H p = none → H' p = some o → G' p = none → p ≠ b → OcOk K G' c o → Q (.ref p) H'
def tDN (K : PySem.W.Frag) (b : Addr) (f : DEO) : TE := fun σ H Q => ∃ G env B c B', St K b G σ H env B ∧ f env B = some (c, B') ∧ PostO K b G H c B' Q
def PDN (X : Cx) (b : Addr) (e : Expr) (f : DEO) : Prop := PE X e (tDN X.K b f)
def dFzE (f : DEO) : DE := fun env B => (f env B).map fun p => (p.1.data, p.2)
section
variable {K : PySem.W.Frag} {b : Addr} {G H G' H' : Hp} {B B' : Bg} {Q : VK}
theorem BagAt.ne {p : Addr} (g : BagAt b G H B) (hp : H p = none) : p ≠ b := fun e => by
  obtain ⟨o, ho⟩ := g.at
  rw [← e, hp] at ho
  cases ho
theorem Frm.back {p : Addr} (f : Frm b G H G' H') (hb : p ≠ b) (hp : H' p = none) : H p = none := by
  cases q : H p with
  | none => rfl
  | some o =>
    have := f.keep p o q hb
    rw [hp] at this
    cases this
theorem PostO.go {c : OC} {G1 H1 : Hp} (k : PostO K b G H c B' Q) (f : Frm b G H G1 H1) : PostO K b G1 H1 c B' Q := fun p o G2 H2 f2 e2 g2 hp h2 gp hb oc => k p o G2 H2 (f.trans f2 g2.1) e2 g2 (f.back hb hp) h2 gp hb oc
/-- a new thing that is put where nothing was -/
theorem PostO.new {c : OC} {p : Addr} {o : HO} (k : PostO K b G H c B Q) (e : Ex G H) (g : BagAt b G H B) (hp : H p = none) (h : OcOk K G c o) : Q (.ref p) (upd H p o) := by
  have hb := g.ne hp
  refine k p o G (upd H p o) ⟨Ex.refl _, fun a u h n => ?_, fun _ _ _ n => n, fun c h => h.new hp⟩ (e.trans (Ex.new hp)) ?_ hp upd_same (ex_none e hp) hb h
  · rw [upd_ne (ne_of_none h hp)]
    exact h
  · obtain ⟨g1, c, g2, g3⟩ := g
    exact ⟨g1, c, by rw [upd_ne hb.symm]; exact g2, g3⟩
/-- held as a datum from then on -/
theorem PostO.of_post {c : OC} (k : Post K b G H c.data B' Q) : PostO K b G H c B' Q := fun p o G' H' f e g hp h2 gp hb oc => by
  refine k (.ref p) (upd G' p o) H' ⟨f.ex.trans (Ex.new gp), f.keep, fun a u h n => ?_, f.cell⟩ (fun a u h => ?_) ?_ ((oc.mono (Ex.new gp)).is upd_same)
  · have ne : a ≠ p := ne_of_none h hp
    rw [upd_ne ne]
    exact f.hide a u h n
  · by_cases q : a = p
    · subst q
      rw [upd_same] at h
      cases h
      exact h2
    · rw [upd_ne q] at h
      exact e a u h
  · obtain ⟨g1, c, g2, g3⟩ := g
    exact ⟨by rw [upd_ne hb.symm]; exact g1, c, g2, by rw [upd_ne (ne_of_none g3 gp)]; exact g3⟩
theorem tD_fz {f : DEO} : ∀ σ H Q, tD K b (dFzE f) σ H Q → tDN K b f σ H Q := fun σ H Q ⟨G, env, B, d, B', s, ev, k⟩ => by
  unfold dFzE at ev
  cases h : f env B with
  | none => rw [h] at ev; cases ev
  | some p =>
    rw [h] at ev
    cases ev
    exact ⟨G, env, B, p.1, p.2, s, h, PostO.of_post k⟩
end
/-- the state within a def that was entered at (G0, H0) -/
structure SS (K : PySem.W.Frag) (b : Addr) (G0 H0 Gm G : Hp) (σ : L2.St) (H : Hp) (env : Env) (B : Bg) : Prop extends St K b G σ H env B where
  frm : Frm b G0 H0 G H
  mrk : Ex Gm G
  fresh : ∀ (i : Nat) (ds : OC) p, env[i]? = some (.own ds) → σ[i]? = some (some (.ref p)) → H0 p = none
inductive Out where
  | nx (env : Env) (B : Bg) | rt (d : PyData) (B : Bg) | ro (c : OC) (B : Bg) | bk (env : Env) (B : Bg) | ct (env : Env) (B : Bg)
abbrev DS := Env → Bg → Option Out
def Want (K : PySem.W.Frag) (b : Addr) (G0 H0 Gm : Hp) (D : Ends) : Out → Prop
  | .nx env B => ∀ G σ H, SS K b G0 H0 Gm G σ H env B → D.nx σ H
  | .bk env B => ∀ G σ H, SS K b G0 H0 Gm G σ H env B → D.bk σ H
  | .ct env B => ∀ G σ H, SS K b G0 H0 Gm G σ H env B → D.ct σ H
  | .rt d B => ∀ v G H, Frm b G0 H0 G H → Ex G H → BagAt b G H B → Is K G v d → D.rt v H
  | .ro c B => PostO K b G0 H0 c B D.rt
def tDS (K : PySem.W.Frag) (b : Addr) (g : DS) : TS := fun D σ H => ∃ G0 H0 Gm G env B o, SS K b G0 H0 Gm G σ H env B ∧ g env B = some o ∧ Want K b G0 H0 Gm D o
def PDS (X : Cx) (b : Addr) (st : Stmt) (g : DS) : Prop := PS X st (tDS X.K b g)
def PDSs (X : Cx) (b : Addr) (st : List Stmt) (g : DS) : Prop := PSs X st (tDS X.K b g)

section
variable {K : PySem.W.Frag} {b : Addr} {G0 H0 Gm G G' H H' : Hp} {σ : L2.St} {env : Env} {B B' : Bg}
theorem SS.step (x : SS K b G0 H0 Gm G σ H env B) (f : Frm b G H G' H') (e : Ex G' H') (g : BagAt b G' H' B') : SS K b G0 H0 Gm G' σ H' env B' :=
  ⟨x.toSt.step f e g, x.frm.trans f g.1, x.mrk.trans f.ex, x.fresh⟩
theorem SS.put {i : Nat} {v : V} {d : PyData} (x : SS K b G0 H0 Gm G σ H env B) (h : Is K G v d) : SS K b G0 H0 Gm G (σ.set i (some v)) H (env.set i (.sh d)) B :=
  ⟨x.toSt.put h, x.frm, x.mrk, fun j ds p e1 e2 => by
    rw [List.getElem?_set] at e1 e2
    by_cases q : i = j
    · rw [if_pos q] at e1
      split at e1 <;> cases e1
    · rw [if_neg q] at e1 e2
      exact x.fresh j ds p e1 e2⟩
/-- a new list of one's own -/
theorem SS.putOwn {i : Nat} {p : Addr} {o : HO} {ds : OC} (x : SS K b G0 H0 Gm G σ H env B) (hp : H p = some o) (gp : G p = none) (h0 : H0 p = none) (hb : p ≠ b) (h : OcOk K G ds o)
    (hn : ∀ (j : Nat) (es : OC), env[j]? = some (.own es) → σ[j]? ≠ some (some (.ref p))) : SS K b G0 H0 Gm G (σ.set i (some (.ref p))) H (env.set i (.own ds)) B where
  ex := x.ex
  bag := x.bag
  len := by rw [List.length_set, List.length_set]; exact x.len
  sl := fun j s e => by
    rw [List.getElem?_set] at e ⊢
    by_cases q : i = j
    · rw [if_pos q] at e ⊢
      split at e
      · rename_i hl
        cases e
        rw [x.len] at hl
        rw [if_pos hl]
        exact ⟨p, o, rfl, gp, hb, hp, h⟩
      · cases e
    · rw [if_neg q] at e ⊢
      exact x.sl j s e
  dis := fun j k ds es r e1 e2 s1 s2 => by
    rw [List.getElem?_set] at e1 e2 s1 s2
    by_cases q1 : i = j
    · by_cases q2 : i = k
      · exact q1.symm.trans q2
      · rw [if_pos q1] at s1
        rw [if_neg q2] at e2 s2
        split at s1
        · cases s1
          exact absurd s2 (hn k es e2)
        · cases s1
    · by_cases q2 : i = k
      · rw [if_neg q1] at e1 s1
        rw [if_pos q2] at s2
        split at s2
        · cases s2
          exact absurd s1 (hn j ds e1)
        · cases s2
      · rw [if_neg q1] at e1 s1
        rw [if_neg q2] at e2 s2
        exact x.dis j k ds es r e1 e2 s1 s2
  frm := x.frm
  mrk := x.mrk
  fresh := fun j ds r e1 e2 => by
    rw [List.getElem?_set] at e1 e2
    by_cases q : i = j
    · rw [if_pos q] at e2
      split at e2
      · cases e2
        exact h0
      · cases e2
    · rw [if_neg q] at e1 e2
      exact x.fresh j ds r e1 e2
/-- a list of one's own is changed -/
theorem SS.own {i : Nat} {p : Addr} {y : HO} {ds es : OC} (x : SS K b G0 H0 Gm G σ H env B) (he : env[i]? = some (.own ds)) (hs : σ[i]? = some (some (.ref p))) (gp : G p = none) (hb : p ≠ b) (h : OcOk K G es y) :
    SS K b G0 H0 Gm G σ (upd H p y) (env.set i (.own es)) B where
  ex := fun a o q => by
    rw [upd_ne (ne_of_none q gp)]
    exact x.ex a o q
  bag := by
    obtain ⟨h1, c, h2, h3⟩ := x.bag
    exact ⟨h1, c, by rw [upd_ne hb.symm]; exact h2, h3⟩
  len := by rw [List.length_set]; exact x.len
  sl := fun j s e => by
    rw [List.getElem?_set] at e
    by_cases q : i = j
    · rw [if_pos q] at e
      split at e
      · cases e
        subst q
        exact ⟨p, y, hs, gp, hb, upd_same, h⟩
      · cases e
    · rw [if_neg q] at e
      have z := x.sl j s e
      cases s with
      | no => trivial
      | sh d => exact z
      | own fs =>
        obtain ⟨r, zs, h1, h2, h3, h4, h5⟩ := z
        refine ⟨r, zs, h1, h2, h3, ?_, h5⟩
        have hne : r ≠ p := fun e2 => q (x.dis i j ds fs p he e hs (by rw [← e2]; exact h1))
        rw [upd_ne hne]
        exact h4
      | bag => exact z
  dis := fun j k fs gs r e1 e2 s1 s2 => by
    have go : ∀ (j : Nat) fs, (env.set i (.own es))[j]? = some (.own fs) → ∃ hs, env[j]? = some (.own hs) := fun j fs e => by
      rw [List.getElem?_set] at e
      by_cases q : i = j
      · exact ⟨ds, by rw [← q]; exact he⟩
      · rw [if_neg q] at e
        exact ⟨fs, e⟩
    obtain ⟨f1, q1⟩ := go j fs e1
    obtain ⟨f2, q2⟩ := go k gs e2
    exact x.dis j k f1 f2 r q1 q2 s1 s2
  frm := ⟨x.frm.ex, fun a o q n => by
    have hne : a ≠ p := fun e => by
      rw [e, x.fresh i ds p he hs] at q
      cases q
    rw [upd_ne hne]
    exact x.frm.keep a o q n, x.frm.hide, fun c h => (x.frm.cell c h).ne hb⟩
  mrk := x.mrk
  fresh := fun j fs r e1 e2 => by
    rw [List.getElem?_set] at e1
    by_cases q : i = j
    · subst q
      exact x.fresh i ds r he e2
    · rw [if_neg q] at e1
      exact x.fresh j fs r e1 e2
/-- a list of one's own becomes a datum -/
theorem SS.freeze {i : Nat} {ds : OC} (x : SS K b G0 H0 Gm G σ H env B) (he : env[i]? = some (.own ds)) : ∃ p o, G p = none ∧ p ≠ b ∧ H p = some o ∧ SS K b G0 H0 Gm (upd G p o) σ H (env.set i (.sh ds.data)) B := by
  obtain ⟨p, xs, h1, h2, h3, h4, h5⟩ := x.sl i _ he
  have e1 : Ex G (upd G p xs) := Ex.new h2
  refine ⟨p, xs, h2, h3, h4, ⟨fun a o q => ?_, ?_, by rw [List.length_set]; exact x.len, fun j s e => ?_, fun j k fs gs r q1 q2 s1 s2 => ?_⟩, ⟨x.frm.ex.trans e1, x.frm.keep, fun a o q n => ?_, x.frm.cell⟩, x.mrk.trans e1, fun j fs r e e2 => ?_⟩
  · by_cases z : a = p
    · rw [z, upd_same] at q
      cases q
      rw [z]
      exact h4
    · rw [upd_ne z] at q
      exact x.ex a o q
  · obtain ⟨g1, c, g2, g3⟩ := x.bag
    exact ⟨by rw [upd_ne h3.symm]; exact g1, c, g2, e1 c _ g3⟩
  · rw [List.getElem?_set] at e
    by_cases q : i = j
    · rw [if_pos q] at e
      split at e
      · cases e
        subst q
        exact ⟨_, h1, (h5.mono e1).is upd_same⟩
      · cases e
    · rw [if_neg q] at e
      have z := x.sl j s e
      cases s with
      | no => trivial
      | sh d =>
        obtain ⟨v, z1, z2⟩ := z
        exact ⟨v, z1, z2.mono e1⟩
      | own fs =>
        obtain ⟨r, zs, z1, z2, z3, z4, z5⟩ := z
        have hne : r ≠ p := fun e2 => q (x.dis i j ds fs p he e h1 (by rw [← e2]; exact z1))
        exact ⟨r, zs, z1, by rw [upd_ne hne]; exact z2, z3, z4, z5.mono e1⟩
      | bag => exact z
  · rw [List.getElem?_set] at q1 q2
    by_cases z1 : i = j
    · rw [if_pos z1] at q1
      split at q1 <;> cases q1
    · by_cases z2 : i = k
      · rw [if_pos z2] at q2
        split at q2 <;> cases q2
      · rw [if_neg z1] at q1
        rw [if_neg z2] at q2
        exact x.dis j k fs gs r q1 q2 s1 s2
  · have hne : a ≠ p := fun e => by
      rw [e, x.fresh i ds p he h1] at q
      cases q
    rw [upd_ne hne]
    exact x.frm.hide a o q n
  · rw [List.getElem?_set] at e
    by_cases q : i = j
    · rw [if_pos q] at e
      split at e <;> cases e
    · rw [if_neg q] at e
      exact x.fresh j fs r e e2
end

section
variable {X : Cx} {b : Addr} {pos : Pos} {e tg : Expr} {f : DE} {st : Stmt} {sts : List Stmt} {g g1 g2 : DS}
/-! ### blocks -/
def dNil : DS := fun env B => some (.nx env B)
def dSeq (g1 g2 : DS) : DS := fun env B => (g1 env B).bind fun o => match o with
  | .nx env B => g2 env B
  | o => some o
theorem pdss_nil : PDSs X b [] dNil := PSs.imp pss_nil fun D σ H ⟨G0, H0, Gm, G, env, B, o, s, ev, k⟩ => by
  cases ev
  exact k G σ H s
theorem tDS_seq {K : PySem.W.Frag} : ∀ D σ H, tDS K b (dSeq g1 g2) D σ H → tSeq (tDS K b g1) (tDS K b g2) D σ H := fun D σ H ⟨G0, H0, Gm, G, env, B, o, s, ev, k⟩ => by
  unfold dSeq at ev
  cases h1 : g1 env B with
  | none => rw [h1] at ev; cases ev
  | some o1 =>
    rw [h1, Option.bind_some] at ev
    refine ⟨G0, H0, Gm, G, env, B, o1, s, h1, ?_⟩
    cases o1 with
    | nx env1 B1 => exact fun G1 σ1 H1 s1 => ⟨G0, H0, Gm, G1, env1, B1, o, s1, ev, k⟩
    | rt d B1 =>
      cases ev
      exact k
    | ro c B1 =>
      cases ev
      exact k
    | bk env1 B1 =>
      cases ev
      exact k
    | ct env1 B1 =>
      cases ev
      exact k
theorem pdss_cons (h1 : PDS X b st g1) (h2 : PDSs X b sts g2) : PDSs X b (st :: sts) (dSeq g1 g2) := PSs.imp (pss_cons h1 h2) tDS_seq
theorem pdss_one (h1 : PDS X b st g1) : PDSs X b [st] g1 := pss_one h1
/-! ### what may be changed becomes a datum ahead of a statement -/
def dFrz (i : Nat) (g : DS) : DS := fun env B => match env[i]? with
  | some (.own ds) => g (env.set i (.sh ds.data)) B
  | _ => g env B
theorem tDS_frz {K : PySem.W.Frag} {i : Nat} : ∀ D σ H, tDS K b (dFrz i g) D σ H → tDS K b g D σ H := fun D σ H ⟨G0, H0, Gm, G, env, B, o, s, ev, k⟩ => by
  unfold dFrz at ev
  split at ev
  · rename_i ds he
    obtain ⟨p, u, _, _, _, s'⟩ := s.freeze he
    exact ⟨G0, H0, Gm, _, _, B, o, s', ev, k⟩
  · exact ⟨G0, H0, Gm, G, env, B, o, s, ev, k⟩
theorem pds_frz (i : Nat) (h : PDS X b st g) : PDS X b st (dFrz i g) := PS.imp h tDS_frz
/-! ### stores -/
def dAsg (tg : DG) (f : DE) : DS := fun env B => (f env B).bind fun p => (tg p.1 env).map fun e => .nx e p.2
/-- a target's store, with the def's state -/
def tDGS (K : PySem.W.Frag) (b : Addr) (g : DG) : TG := fun v σ H Q => ∃ G0 H0 Gm G env B d env', SS K b G0 H0 Gm G σ H env B ∧ Is K G v d ∧ g d env = some env' ∧ ∀ σ', SS K b G0 H0 Gm G σ' H env' B → Q σ' H
def PDGS (X : Cx) (b : Addr) (tg : Expr) (g : DG) : Prop := PG X tg (tDGS X.K b g)
def tDGSs (K : PySem.W.Frag) (b : Addr) (g : DGs) : TGs := fun vs σ H Q => ∃ G0 H0 Gm G env B ds env', SS K b G0 H0 Gm G σ H env B ∧ IsL K G vs ds ∧ g ds env = some env' ∧ ∀ σ', SS K b G0 H0 Gm G σ' H env' B → Q σ' H
def PDGSs (X : Cx) (b : Addr) (tgs : List Expr) (g : DGs) : Prop := PGs X tgs (tDGSs X.K b g)
theorem pdn_name (i : Nat) {x : Str} (h : PG X (.Name x pos) (gName i)) : PDGS X b (.Name x pos) (gOne i) := PG.imp h fun v σ H Q ⟨G0, H0, Gm, G, env, B, d, env', s, is, ev, k⟩ => by
  cases ev
  exact k _ (s.put is)
theorem pdns_nil : PDGSs X b [] gsNil := PGs.imp pgs_nil fun v σ H Q ⟨G0, H0, Gm, G, env, B, ds, env', s, is, ev, k⟩ => by
  cases is with
  | nil =>
    cases ev
    exact ⟨rfl, k σ s⟩
  | cons _ _ => cases ev
theorem pdns_cons {es : List Expr} {g : DG} {r : DGs} (h1 : PDGS X b e g) (h2 : PDGSs X b es r) (hs : (assignEach (e :: es) X.env).map (·.2) = assign e X.env :: (assignEach es X.env).map (·.2) := by rfl) : PDGSs X b (e :: es) (gsCons g r) :=
  PGs.imp (pgs_cons h1 h2 hs) fun v σ H Q ⟨G0, H0, Gm, G, env, B, ds, env', s, is, ev, k⟩ => by
    cases is with
    | nil => cases ev
    | @cons v1 vr d1 dr i1 i2 =>
      have ev : (g d1 env).bind (fun e => r dr e) = some env' := ev
      cases h : g d1 env with
      | none => rw [h] at ev; cases ev
      | some e1 =>
        rw [h, Option.bind_some] at ev
        exact ⟨v1, vr, rfl, G0, H0, Gm, G, env, B, d1, e1, s, i1, h, fun σ1 s1 => ⟨G0, H0, Gm, G, e1, B, dr, env', s1, i2, ev, k⟩⟩
theorem pdn_tup {es : List Expr} {k : Nat} {r : DGs} {n : Nat} (hc : X.calm = true) (h : PDGSs X b es r) (hn : (assignEach es X.env).length = n := by rfl) (hst : (assignEach es X.env).findIdx? (·.1) = none := by rfl) : PDGS X b (.Tuple es k pos) (gTup n r) :=
  PG.imp (pg_tup hc h hn hst) fun v σ H Q ⟨G0, H0, Gm, G, env, B, d, env', s, is, ev, kk⟩ => by
    cases is with
    | @tup a xs ds ht hl =>
      have ev : (if ds.length = n then r ds env else none) = some env' := ev
      split at ev
      · exact ⟨a, xs, rfl, ex_t s.ex ht.sq, by rw [hl.len]; assumption, G0, H0, Gm, G, env, B, ds, env', s, hl, ev, kk⟩
      · cases ev
    | _ => cases ev
theorem dAsg_some {g : DG} {env : Env} {B : Bg} {o : Out} (h : dAsg g f env B = some o) : ∃ d B1 e1, f env B = some (d, B1) ∧ g d env = some e1 ∧ o = .nx e1 B1 := by
  unfold dAsg at h
  cases h1 : f env B with
  | none => rw [h1] at h; cases h
  | some p =>
    rw [h1, Option.bind_some] at h
    cases h2 : g p.1 env with
    | none => rw [h2] at h; cases h
    | some e1 =>
      rw [h2] at h
      cases h
      exact ⟨p.1, p.2, e1, rfl, h2, rfl⟩
theorem tDS_asg {K : PySem.W.Frag} {g : DG} : ∀ D σ H, tDS K b (dAsg g f) D σ H → tAsg (tD K b f) (tDGS K b g) D σ H := fun D σ H ⟨G0, H0, Gm, G, env, B, o, s, ev, k⟩ => by
  obtain ⟨d, B1, e1, h1, h2, rfl⟩ := dAsg_some ev
  exact ⟨G, env, B, d, B1, s.toSt, h1, fun v G1 H1 fr ex bg is => ⟨G0, H0, Gm, G1, env, B1, d, e1, s.step fr ex bg, is, h2, fun σ' s' => k G1 σ' H1 s'⟩⟩
theorem pds_asg {g : DG} (h1 : PD X b e f) (h2 : PDGS X b tg g) (hs : swapsWithSole [tg] e pos.line X.env = pure false := by rfl) (hw : swappedStores [tg] e X.env = pure none := by rfl) (h3 : (assignEach [tg] X.env).map (·.2) = [assign tg X.env] := by rfl) :
    PDS X b (.Assign [tg] e pos) (dAsg g f) := PS.imp (ps_asg h1 h2 hs hw h3) tDS_asg
/-- name = expression -/
theorem pds_set (i : Nat) {x : Str} {pos' : Pos} (h : PE X e (tD X.K b f) → PS X (.Assign [.Name x pos'] e pos) (tAsg (tD X.K b f) (gName i))) (h1 : PD X b e f) : PDS X b (.Assign [.Name x pos'] e pos) (dAsg (gOne i) f) :=
  PS.imp (h h1) fun D σ H ⟨G0, H0, Gm, G, env, B, o, s, ev, k⟩ => by
    obtain ⟨d, B1, e1, h1, h2, rfl⟩ := dAsg_some ev
    cases h2
    exact ⟨G, env, B, d, B1, s.toSt, h1, fun v G1 H1 fr ex bg is => k G1 _ H1 ((s.step fr ex bg).put is)⟩
/-- name = [.. for ..] -/
theorem pds_setLc (i : Nat) {y : Str} {py : Pos} {elt iter : Expr} {ifs : List Expr} {scope : Scope} (own : List (Str × Nat)) {spos : Pos} {fi : DI} {g : DG} {js : List Nat} {c f : DE} (hc : X.calm = true) (hN : X.N.Nodup) (hy : X.N[i]? = some y) (hyl : X.env.scope.names.lookup y = some .local)
    (hw : swapsWith (.ListComp elt [⟨tg, iter, ifs, 0⟩] scope pos) (some (.Name y py)) spos.line X.env = pure true) (hi : PDI X b tg iter fi) (ok : BlkOk X.N X.env.scope scope own)
    (hg : ∀ (s : Shared) (H : Hp) (C : Addr) (cl : List (Str × Addr)) (fp : List Addr), PDG (X.blk s H scope (compEnvC scope cl C X.env) fp) b tg g js)
    (ht : ∀ (s : Shared) (H : Hp) (C : Addr) (cl : List (Str × Addr)) (fp : List Addr), PDTs (X.blk s H scope (compEnvC scope cl C X.env) fp) b ifs c)
    (he : ∀ (s : Shared) (H : Hp) (C : Addr) (cl : List (Str × Addr)) (fp : List Addr), PD (X.blk s H scope (compEnvC scope cl C X.env) fp) b elt f)
    (hj : ∀ j ∈ js, j ∈ own.map (·.2) := by decide) (hs : ∀ x, foldedSetIterable iter X.env x = pure x := by intro _; rfl) :
    PDS X b (.Assign [.Name y py] (.ListComp elt [⟨tg, iter, ifs, 0⟩] scope pos) spos) (dAsg (gOne i) (dLc fi g c f (own.map (·.2)))) :=
  PS.imp (ps_setLc (g := tDG X.K b g js) (tt := tDT X.K b c) (te := tD X.K b f) hc hN hy hyl hw hi ok hg ht he hs) fun D σ H ⟨G0, H0, Gm, G, env, B, o, s, ev, k⟩ => by
    obtain ⟨d, B1, e1, h1, h2, rfl⟩ := dAsg_some ev
    cases h2
    refine tD_lc hj σ H (fun x H1 => gName i x σ H1 D.nx) ⟨G, env, B, d, B1, s.toSt, h1, fun v G1 H1 fr ex bg is => ?_⟩
    exact k G1 _ H1 ((s.step fr ex bg).put is)
/-- name = [e, ..], a list of one's own -/
def dOwn (i : Nat) (as : List DAr) : DS := fun env B => (dArgs as env B).bind fun p => (arD p.1).bind fun ds => if ds.length ≤ 100000 then some (.nx (env.set i (.own (.l ds))) p.2) else none
theorem pds_own (i : Nat) {x : Str} {pos' pl : Pos} {es : List Expr} {as : List DAr} (h1 : PDA X b es as)
    (h : PA X es (tDA X.K b (dArgs as)) → PS X (.Assign [.Name x pos'] (.List es pl) pos) (tAsg (tLst (tDA X.K b (dArgs as))) (gName i))) : PDS X b (.Assign [.Name x pos'] (.List es pl) pos) (dOwn i as) :=
  PS.imp (h h1) fun D σ H ⟨G0, H0, Gm, G, env, B, o, s, ev, k⟩ => by
    unfold dOwn at ev
    cases h1 : dArgs as env B with
    | none => rw [h1] at ev; cases ev
    | some p =>
      obtain ⟨xs, B1⟩ := p
      rw [h1, Option.bind_some] at ev
      dsimp only at ev
      cases h2 : arD xs with
      | none => rw [h2] at ev; cases ev
      | some ds =>
        rw [h2, Option.bind_some] at ev
        split at ev
        · cases ev
          refine ⟨G, env, B, xs, B1, s.toSt, h1, fun vs G1 H1 fr ex bg is => ⟨sz_of (by rw [is.len]; have := arD_is is h2; rw [← is.len, this.len]; assumption), fun p hp => ?_⟩⟩
          have il := arD_is is h2
          have s1 := s.step fr ex bg
          have hb : p ≠ b := fun e => by
            obtain ⟨o, ho⟩ := bg.at
            rw [← e, hp] at ho
            cases ho
          have s2 : SS X.K b G0 H0 Gm G1 σ (upd H1 p (.lst vs)) env B1 := ⟨⟨ex.trans (Ex.new hp), by
              obtain ⟨g1, c, g2, g3⟩ := bg
              exact ⟨g1, c, by rw [upd_ne hb.symm]; exact g2, g3⟩, s1.len, fun j t e => by
                have z := s1.sl j t e
                cases t with
                | no => trivial
                | sh d => exact z
                | own fs =>
                  obtain ⟨r, zs, z1, z2, z3, z4, z5⟩ := z
                  exact ⟨r, zs, z1, z2, z3, by rw [upd_ne (ne_of_none z4 hp)]; exact z4, z5⟩
                | bag => exact z, s1.dis⟩, ⟨s1.frm.ex, fun a o h n => by
                  have q := s1.frm.keep a o h n
                  rw [upd_ne (ne_of_none q hp)]
                  exact q, s1.frm.hide, fun c h => (s1.frm.cell c h).ne hb⟩, s1.mrk, s1.fresh⟩
          have h0 : H0 p = none := by
            cases q : H0 p with
            | none => rfl
            | some o =>
              have := s1.frm.keep p o q hb
              rw [hp] at this
              cases this
          refine k G1 _ _ (s2.putOwn upd_same (ex_none ex hp) h0 hb ⟨_, rfl, il⟩ fun j es' e1 e2 => ?_)
          obtain ⟨r, zs, z1, z2, z3, z4, z5⟩ := s1.sl j _ e1
          rw [e2] at z1
          cases z1
          rw [hp] at z4
          cases z4
        · cases ev
/-- xs.append(e), xs.insert(i, e), xs.extend(e) of a list of one's own -/
def dPush (i : Nat) (f : DE) : DS := fun env B => (f env B).bind fun p => match env[i]? with
  | some (.own (.l ds)) => if ds.length < 100000 then some (.nx (env.set i (.own (.l (ds ++ [p.1])))) p.2) else none
  | _ => none
theorem tyV_list {K : PySem.W.Frag} {p : Addr} {xs : List V} {H : Hp} (h : H p = some (.lst xs)) : tyV K "list" (.ref p) H := .inl ⟨rfl, _, sq_of h⟩
theorem own_at {K : PySem.W.Frag} {G H G1 H1 : Hp} {σ : L2.St} {env : Env} {B : Bg} {i : Nat} {ds : List PyData} (s : St K b G σ H env B) (he : env[i]? = some (.own (.l ds))) (fr : Frm b G H G1 H1) :
    ∃ p xs, σ[i]? = some (some (.ref p)) ∧ G p = none ∧ p ≠ b ∧ H p = some (.lst xs) ∧ IsL K G xs ds ∧ H1 p = some (.lst xs) ∧ G1 p = none := by
  obtain ⟨p, o, h1, h2, h3, h4, xs, rfl, h5⟩ := s.sl i _ he
  exact ⟨p, xs, h1, h2, h3, h4, h5, fr.keep p _ h4 h3, fr.hide p _ h4 h2⟩
theorem pds_append (i : Nat) {x : Str} {px apos cpos : Pos} (h : PE X e (tD X.K b f) → PS X (.Expr (.Call (.Attribute (.Name x px) "append" apos) [e] [] cpos) pos) (tDrop (tBM X.K "list" rAppend (tVar i) (tCons (tD X.K b f) tNil)))) (h1 : PD X b e f) :
    PDS X b (.Expr (.Call (.Attribute (.Name x px) "append" apos) [e] [] cpos) pos) (dPush i f) := PS.imp (h h1) fun D σ H ⟨G0, H0, Gm, G, env, B, o, s, ev, k⟩ => by
  unfold dPush at ev
  cases h1 : f env B with
  | none => rw [h1] at ev; cases ev
  | some p =>
    obtain ⟨d, B1⟩ := p
    rw [h1, Option.bind_some] at ev
    dsimp only at ev
    split at ev
    · rename_i ds he
      split at ev
      · cases ev
        obtain ⟨p, xs, q1, q2, q3, q4, q5, _⟩ := own_at s.toSt he (Frm.refl (H := H))
        refine ⟨.ref p, q1, tyV_list q4, G, env, B, d, B1, s.toSt, h1, fun v G1 H1 fr ex bg is => ?_⟩
        obtain ⟨p', xs', r1, _, _, r4, _, r6, r7⟩ := own_at s.toSt he fr
        rw [q1] at r1
        cases r1
        rw [q4] at r4
        cases r4
        refine ⟨p, xs, v, rfl, rfl, r6, sz_lt (by rw [q5.len]; assumption), ?_⟩
        exact k G1 σ _ ((s.step fr ex bg).own he q1 r7 q3 ⟨_, rfl, (q5.mono fr.ex).append (.one is)⟩)
      · cases ev
    · cases ev
/-! ### if, return, expression -/
def dIfS (c : DE) (g1 g2 : DS) : DS := fun env B => (c env B).bind fun p => match p.1 with
  | .bool true => g1 env p.2
  | .bool false => g2 env p.2
  | _ => none
theorem pds_if {s1 s2 : List Stmt} (hc : PDT X b e f) (h1 : PDSs X b s1 g1) (h2 : PDSs X b s2 g2) : PDS X b (.If e s1 s2 pos) (dIfS f g1 g2) := PS.imp (ps_if hc h1 h2) fun D σ H ⟨G0, H0, Gm, G, env, B, o, s, ev, k⟩ => by
  unfold dIfS at ev
  cases h1 : f env B with
  | none => rw [h1] at ev; cases ev
  | some p =>
    obtain ⟨d, B1⟩ := p
    rw [h1, Option.bind_some] at ev
    dsimp only at ev
    split at ev
    · exact ⟨G, env, B, true, B1, s.toSt, h1, fun G1 H1 fr ex bg => iteT ⟨G0, H0, Gm, G1, env, B1, o, s.step fr ex bg, ev, k⟩⟩
    · exact ⟨G, env, B, false, B1, s.toSt, h1, fun G1 H1 fr ex bg => iteF ⟨G0, H0, Gm, G1, env, B1, o, s.step fr ex bg, ev, k⟩⟩
    · cases ev
def dRet (f : DE) : DS := fun env B => (f env B).map fun p => .rt p.1 p.2
theorem pds_ret (h : PD X b e f) : PDS X b (.Return (some e) pos) (dRet f) := PS.imp (ps_ret h) fun D σ H ⟨G0, H0, Gm, G, env, B, o, s, ev, k⟩ => by
  unfold dRet at ev
  cases h1 : f env B with
  | none => rw [h1] at ev; cases ev
  | some p =>
    rw [h1] at ev
    cases ev
    exact ⟨G, env, B, p.1, p.2, s.toSt, h1, fun v G1 H1 fr ex bg is => k v G1 H1 (s.frm.trans fr bg.1) ex bg is⟩
def dExpr (f : DE) : DS := fun env B => (f env B).map fun p => .nx env p.2
theorem pds_expr (h : PD X b e f) (hs : swapsWith e none pos.line X.env = pure false := by rfl) : PDS X b (.Expr e pos) (dExpr f) := PS.imp (ps_expr h hs) fun D σ H ⟨G0, H0, Gm, G, env, B, o, s, ev, k⟩ => by
  unfold dExpr at ev
  cases h1 : f env B with
  | none => rw [h1] at ev; cases ev
  | some p =>
    rw [h1] at ev
    cases ev
    exact ⟨G, env, B, p.1, p.2, s.toSt, h1, fun v G1 H1 fr ex bg is => k G1 σ H1 (s.step fr ex bg)⟩
/-- what is never come to -/
def dNever : DS := fun _ _ => none
theorem pds_never : PDS X b st dNever := PS.imp ps_never fun D σ H ⟨G0, H0, Gm, G, env, B, o, s, ev, k⟩ => by cases ev
theorem pds_pass : PDS X b (.Pass pos) dNil := PS.imp ps_pass fun D σ H ⟨G0, H0, Gm, G, env, B, o, s, ev, k⟩ => by
  cases ev
  exact k G σ H s
def dBreak : DS := fun env B => some (.bk env B)
def dCont : DS := fun env B => some (.ct env B)
theorem pds_break : PDS X b (.Break pos) dBreak := PS.imp ps_break fun D σ H ⟨G0, H0, Gm, G, env, B, o, s, ev, k⟩ => by
  cases ev
  exact k G σ H s
theorem pds_cont : PDS X b (.Continue pos) dCont := PS.imp ps_continue fun D σ H ⟨G0, H0, Gm, G, env, B, o, s, ev, k⟩ => by
  cases ev
  exact k G σ H s
/-! ### for -/
def forGo (tg : DG) (g : DS) : List PyData → Env → Bg → Option Out
  | [], env, B => some (.nx env B)
  | d :: ds, env, B => (tg d env).bind fun e1 => (g e1 B).bind fun o => match o with
    | .nx env B => forGo tg g ds env B
    | .ct env B => forGo tg g ds env B
    | .bk env B => some (.nx env B)
    | .rt d B => some (.rt d B)
    | .ro c B => some (.ro c B)
def dFor (fi : DI) (tg : DG) (g : DS) : DS := fun env B => (fi env B).bind fun p => forGo tg g p.1 env p.2
theorem tDS_for {K : PySem.W.Frag} {fi : DI} {tg : DG} : ∀ D σ H, tDS K b (dFor fi tg g) D σ H → tFor (tDI K b fi) (tDGS K b tg) (tDS K b g) D σ H := fun D σ H ⟨G0, H0, Gm, G, env, B, o, s, ev, k⟩ => by
  unfold dFor at ev
  cases h1 : fi env B with
  | none => rw [h1] at ev; cases ev
  | some p =>
    obtain ⟨ds, B1⟩ := p
    rw [h1, Option.bind_some] at ev
    dsimp only at ev
    refine ⟨G, env, B, ds, B1, s.toSt, h1, fun J G1 H1 fr1 ex1 bg1 it => ?_⟩
    refine ⟨fun i m σ H => m = ds.length - i ∧ i ≤ ds.length ∧ ∃ G2 env2 B2, SS K b G0 H0 Gm G2 σ H env2 B2 ∧ Ex G1 G2 ∧ forGo tg g (ds.drop i) env2 B2 = some o, ⟨ds.length, rfl, Nat.zero_le _, G1, env, B1, s.step fr1 ex1 bg1, Ex.refl _, by simpa using ev⟩, ?_⟩
    rintro i m σ2 H2 ⟨rfl, hi, G2, env2, B2, s2, e2, hf⟩
    obtain ⟨z1, z2⟩ := it i G2 H2 B2 e2 s2.ex s2.bag
    by_cases hlt : i < ds.length
    · have hd : ds[i]? = some ds[i] := List.getElem?_eq_getElem hlt
      obtain ⟨go, yl⟩ := z2 _ hd
      rw [List.drop_eq_getElem_cons hlt] at hf
      unfold forGo at hf
      cases h3 : tg ds[i] env2 with
      | none => rw [h3] at hf; cases hf
      | some e3 =>
        rw [h3, Option.bind_some] at hf
        cases h4 : g e3 B2 with
        | none => rw [h4] at hf; cases hf
        | some o4 =>
          rw [h4, Option.bind_some] at hf
          refine .inr ⟨go, fun σ H => ∃ G2 env2 B2, SS K b G0 H0 Gm G2 σ H env2 B2 ∧ Ex G1 G2 ∧ forGo tg g (ds.drop (i + 1)) env2 B2 = some o, fun σ3 H3 hN => ⟨ds.length - (i + 1), by omega, rfl, hlt, hN⟩, fun x H3 y => ?_⟩
          obtain ⟨G3, fr3, ex3, bg3, is3⟩ := yl x H3 y
          have s3 := s2.step fr3 ex3 bg3
          have e13 : Ex G1 G3 := e2.trans fr3.ex
          refine ⟨G0, H0, G1, G3, env2, B2, ds[i], e3, ⟨s3.toSt, s3.frm, e13, s3.fresh⟩, is3, h3, fun σ4 s4 => ⟨G0, H0, G1, G3, e3, B2, o4, s4, h4, ?_⟩⟩
          have back : ∀ {G5 σ5 H5 env5 B5}, SS K b G0 H0 G1 G5 σ5 H5 env5 B5 → SS K b G0 H0 Gm G5 σ5 H5 env5 B5 := fun {G5 σ5 H5 env5 B5} s5 => ⟨s5.toSt, s5.frm, (s.mrk.trans fr1.ex).trans s5.mrk, s5.fresh⟩
          cases o4 with
          | nx env5 B5 => exact fun G5 σ5 H5 s5 => ⟨G5, env5, B5, back s5, s5.mrk, hf⟩
          | ct env5 B5 => exact fun G5 σ5 H5 s5 => ⟨G5, env5, B5, back s5, s5.mrk, hf⟩
          | bk env5 B5 =>
            cases hf
            exact fun G5 σ5 H5 s5 => k G5 σ5 H5 (back s5)
          | rt d5 B5 =>
            cases hf
            exact k
          | ro c5 B5 =>
            cases hf
            exact k
    · refine .inl ⟨z1 (by omega), ?_⟩
      rw [List.drop_eq_nil_of_le (by omega)] at hf
      cases hf
      exact k G2 σ2 H2 s2
end
end Dl

/-! DD: defs and their calls; operations on data. -/
namespace Dl
open PySem L2 Evl PyProof.Rows

/-! ### defs -/
abbrev DF := List Ar → Bg → Option (PyData × Bg)
def spD (K : PySem.W.Frag) (n : Nat) (F : DF) : Sp := fun vs H Q _ => ∃ b G as B d B', Ex G H ∧ BagAt b G H B ∧ IsAs K b G vs as ∧ as.length = n ∧ F as B = some (d, B') ∧ Post K b G H d B' Q
def Ar.sl : Ar → Sl
  | .d x => .sh x
  | .bag => .bag
/-- the worth of a def of n names by its body's -/
def dFn (n : Nat) (g : DS) : DF := fun as B => (g (as.map Ar.sl ++ List.replicate (n - as.length) .no) B).bind fun o => match o with
  | .rt d B' => some (d, B')
  | .nx _ B' => some (.none, B')
  | .ro c B' => some (c.data, B')
  | _ => none
/-- of one that hands out a new thing -/
abbrev DFO := List Ar → Bg → Option (OC × Bg)
def spDO (K : PySem.W.Frag) (n : Nat) (F : DFO) : Sp := fun vs H Q _ => ∃ b G as B c B', Ex G H ∧ BagAt b G H B ∧ IsAs K b G vs as ∧ as.length = n ∧ F as B = some (c, B') ∧ PostO K b G H c B' Q
def dFnO (n : Nat) (g : DS) : DFO := fun as B => (g (as.map Ar.sl ++ List.replicate (n - as.length) .no) B).bind fun o => match o with
  | .ro c B' => some (c, B')
  | _ => none
def WantF (K : PySem.W.Frag) (b : Addr) (G H : Hp) (Q : VK) : Out → Prop
  | .nx _ B => Post K b G H .none B Q
  | .rt d B => Post K b G H d B Q
  | .ro c B => PostO K b G H c B Q
  | _ => False
def spOut (K : PySem.W.Frag) (n m : Nat) (g : DS) : Sp := fun vs H Q _ => ∃ b G as B o, Ex G H ∧ BagAt b G H B ∧ IsAs K b G vs as ∧ as.length = n ∧ g (as.map Ar.sl ++ List.replicate (m - as.length) .no) B = some o ∧ WantF K b G H Q o
theorem IsAs.slots {K : PySem.W.Frag} {b : Addr} {G H : Hp} : ∀ {vs : List V} {as : List Ar}, IsAs K b G vs as → ∀ (i : Nat) s, (as.map Ar.sl)[i]? = some s → SlOk K b G H (vs.map some)[i]? s ∧ ∀ ds, s ≠ .own ds
  | _, _, .nil, i, s, e => by simp at e
  | _, _, .cons (v := v) (a := a) h r, 0, s, e => by
    have e : some a.sl = some s := e
    cases e
    cases a with
    | d x => exact ⟨⟨v, rfl, h⟩, fun ds z => nomatch z⟩
    | bag =>
      have h : v = .ref b := h
      subst h
      exact ⟨rfl, fun ds z => nomatch z⟩
  | _, _, .cons h r, i + 1, s, e => by
    have q := IsAs.slots (H := H) r i s (by simpa using e)
    simpa using q
section
variable {P : Program} {w : World} {K : PySem.W.Frag} {mg : Str → Option Value} {base : Heap}
/-- a def's promise where nothing is being shown by repr around it -/
structure FnG (P : Program) (w : World) (K : PySem.W.Frag) (mg : Str → Option Value) (base : Heap) (k : Nat) (f : Addr) (fd : FuncData) (ps : List Str) (sp : Sp) : Prop where
  len : ∀ vs H Q E, sp vs H Q E → vs.length = ps.length
  go : ∀ (A : Around) (outer : List PySem.Env) (s : Shared) (H : Hp) (args : Args) (us : List Value) (vs : List V) (Q : VK) (E : XK), Room k A → A.guards = some [] → Env0 P w K mg base A outer s H →
    BindsTo s fd args (ps.zip us) → Vals vs us → sp vs H Q E → codeAny (model P w) A (.call (.ref f) args) (CR CX0 outer P w H s Q E) s
theorem FnG.mono {j k : Nat} {f : Addr} {fd : FuncData} {ps : List Str} {sp : Sp} (x : FnG P w K mg base j f fd ps sp) (h : j ≤ k) : FnG P w K mg base k f fd ps sp :=
  { len := x.len, go := fun A outer s H args us vs Q E room g => x.go A outer s H args us vs Q E (room.mono h) g }
/-- how a body's end is the call's -/
theorem end_of_body {X : Cx} {outer : List PySem.Env} {H : Hp} {s s' : Shared} {Q : VK} {fl : Flow} (hP : X.prog = P) (hw : X.w = w) (ho : X.outer = outer) (h0 : X.s_0 = s) (hH : X.H_0 = H) (hx : X.ex = [])
    (h : SP X [] { nx := fun _ H' => Q .non H', rt := Q } fl s') : ∃ u, (fl = .ret u ∨ (fl = .next ∧ u = .none)) ∧ CE outer P w H s Q u s' := by
  subst hP hw ho h0 hH
  have pack : ∀ {σ' : L2.St} {H' : Hp} {v : V} {u : Value}, Inv X [] σ' H' s' → RelV v u → Q v H' → CE X.outer X.prog X.w X.H_0 X.s_0 Q u s' := fun {σ' H' v u} J rv q =>
    ⟨v, H', J.os, J.bare, by have z := J.base; rw [hx] at z; exact z, J.hok, rv, q⟩
  match fl, h with
  | .ret u, ⟨v, _, _, J, rv, q⟩ => exact ⟨u, .inl rfl, pack J rv q⟩
  | .next, ⟨_, _, J, q⟩ => exact ⟨.none, .inr ⟨rfl, rfl⟩, pack (v := .non) J rfl q⟩
  | .brk, ⟨_, _, _, q⟩ => exact q.elim
  | .cont, ⟨_, _, _, q⟩ => exact q.elim
theorem fnG_of {x qual : Str} {st : Stmt} {f : Addr} {fd : FuncData} {N ps : List Str} {k : Nat} {sp : Sp} (F : Fun K x qual st f fd) (S : FnScope N ps (defScope st)) (len : ∀ vs H Q E, sp vs H Q E → vs.length = ps.length)
    (body : ∀ (cdv : Value) (A : Around) (outer : List PySem.Env) (s : Shared) (H : Hp) (vs : List V) (Q : VK) (E : XK), Room k (A.deeper (PyProof.Rows.envOfC qual (defScope st) s.heap.objs.size f cdv)) → A.guards = some [] → sp vs H Q E →
      ∃ t, PSs (cxOf CX0 P w K mg base N qual (defScope st) f cdv A outer s H E).nox (defBody st) t ∧ t { nx := fun _ H' => Q .non H', rt := Q } (L2.start N vs) H) : FnG P w K mg base (k + 1) f fd ps sp := by
  obtain ⟨oc, od, kV, doc, pm, an, cdv, ct, osl, hfd, atf, code⟩ := F.ex
  subst hfd
  constructor
  · exact len
  intro A outer s H args us vs Q E room gs e0 bound rel hsp
  have old : ∀ b o, base.get? b = some o → s.heap.get? b = some o := fun b o e => (e0.bs b o e).1
  have KX : K.In s.heap := e0.mod.kin.keeps old
  have loc : ∀ y ∈ ps.zip us, (defScope st).names.lookup y.1 = some .local ∨ (defScope st).names.lookup y.1 = some .cell := fun y hy => S.par y.1 (List.of_mem_zip (a := y.1) (b := y.2) hy).1
  have entered := PySem.W.codeRec_of KX code
  refine codeAny_call_function room.depth (KX _ _ atf) rfl S.co S.gen rfl entered (bound _ _ _ _ (wpAny_newFunctionEnv_cells S.kind (fun y hy => ?_) (fun env he s1 x => ?_)))
  · rcases loc y hy with q | q
    · exact .inl q
    · exact .inr (And.intro q (PySem.W.cellsFrom_some _ _ _ (Or.inl q)))
  · subst he
    refine ⟨(e0.mod.nolimit.keeps old).keeps x.toInCall.keep, codeAny_func ?_⟩
    obtain ⟨t, derived, wanted⟩ := body cdv A outer s H vs Q E (room.deeper _) gs hsp
    have I0 := inv_start (CX := CX0) (E := E) S room.hd e0 (len _ _ _ _ hsp) rel x
    have ran := derived.run [] s1 (L2.start N vs) H _ (I0.wish _) wanted
    refine wpAny_mono ran (fun fl s' hs => ?_) (fun e s' z => z.elim)
    obtain ⟨u, hu, ce⟩ := end_of_body (P := P) (w := w) (outer := outer) (s := s) (H := H) rfl rfl rfl rfl rfl rfl hs
    rcases hu with rfl | ⟨rfl, rfl⟩ <;> exact ce
theorem FnG.imp {k : Nat} {f : Addr} {fd : FuncData} {ps : List Str} {sp sp' : Sp} (x : FnG P w K mg base k f fd ps sp) (i : ∀ vs H Q E, sp' vs H Q E → sp vs H Q E) : FnG P w K mg base k f fd ps sp' :=
  { len := fun vs H Q E h => x.len vs H Q E (i vs H Q E h), go := fun A outer s H args us vs Q E room g e0 bd rel h => x.go A outer s H args us vs Q E room g e0 bd rel (i vs H Q E h) }
theorem fn_out {x qual : Str} {st : Stmt} {f : Addr} {fd : FuncData} {N ps : List Str} {k : Nat} {g : DS} (F : Fun K x qual st f fd) (S : FnScope N ps (defScope st))
    (h : ∀ (b : Addr) (cdv : Value) (A : Around) (outer : List PySem.Env) (s : Shared) (H : Hp) (E : XK), Room k (A.deeper (PyProof.Rows.envOfC qual (defScope st) s.heap.objs.size f cdv)) → A.guards = some [] → PDSs (cxOf CX0 P w K mg base N qual (defScope st) f cdv A outer s H E).nox b (defBody st) g) :
    FnG P w K mg base (k + 1) f fd ps (spOut K ps.length N.length g) := by
  refine fnG_of F S (fun vs H Q E hs => ?_) fun cdv A outer s H vs Q E hr hg hs => ?_
  · obtain ⟨b, G, as, B, o, _, _, i, l, _⟩ := hs
    rw [i.len, l]
  · obtain ⟨b, G, as, B, o, ex, bg, is, l, h1, want⟩ := hs
    refine ⟨_, h b cdv A outer s H E hr hg, ?_⟩
    have hlen : vs.length = as.length := is.len
    have own : ∀ (i : Nat) s, (as.map Ar.sl ++ List.replicate (N.length - as.length) Sl.no)[i]? = some s → SlOk K b G H (L2.start N vs)[i]? s ∧ ∀ ds, s ≠ .own ds := fun i s e => by
      by_cases hi : i < as.length
      · rw [List.getElem?_append_left (by simpa using hi)] at e
        unfold L2.start
        rw [List.getElem?_append_left (by simpa [hlen] using hi)]
        exact is.slots i s e
      · rw [List.getElem?_append_right (by simpa using hi), List.getElem?_replicate] at e
        split at e
        · cases e
          exact ⟨trivial, fun ds z => nomatch z⟩
        · cases e
    refine ⟨G, H, G, G, _, B, o, ⟨⟨ex, bg, ?_, fun i s e => (own i s e).1, fun i j ds es p e1 _ _ _ => absurd rfl ((own i _ e1).2 ds)⟩, Frm.refl, Ex.refl _, fun i ds p e1 _ => absurd rfl ((own i _ e1).2 ds)⟩, h1, ?_⟩
    · unfold L2.start
      rw [List.length_append, List.length_append, List.length_map, List.length_map, List.length_replicate, List.length_replicate, hlen]
    · cases o with
      | nx env B1 => exact fun G1 σ1 H1 s1 => want .non G1 H1 s1.frm s1.ex s1.bag .non
      | rt d1 B1 => exact fun v G1 H1 fr ex1 bg1 is1 => want v G1 H1 fr ex1 bg1 is1
      | ro c1 B1 => exact want
      | bk env B1 => exact want.elim
      | ct env B1 => exact want.elim
theorem out_d {n m : Nat} {g : DS} : ∀ vs H Q E, spD K n (dFn m g) vs H Q E → spOut K n m g vs H Q E := fun vs H Q E ⟨b, G, as, B, d, B', ex, bg, is, l, ev, k⟩ => by
  unfold dFn at ev
  cases h1 : g (as.map Ar.sl ++ List.replicate (m - as.length) .no) B with
  | none => rw [h1] at ev; cases ev
  | some o =>
    rw [h1, Option.bind_some] at ev
    refine ⟨b, G, as, B, o, ex, bg, is, l, h1, ?_⟩
    cases o with
    | nx env B1 =>
      cases ev
      exact k
    | rt d1 B1 =>
      cases ev
      exact k
    | ro c1 B1 =>
      cases ev
      exact PostO.of_post k
    | bk env B1 => cases ev
    | ct env B1 => cases ev
theorem out_o {n m : Nat} {g : DS} : ∀ vs H Q E, spDO K n (dFnO m g) vs H Q E → spOut K n m g vs H Q E := fun vs H Q E ⟨b, G, as, B, d, B', ex, bg, is, l, ev, k⟩ => by
  unfold dFnO at ev
  cases h1 : g (as.map Ar.sl ++ List.replicate (m - as.length) .no) B with
  | none => rw [h1] at ev; cases ev
  | some o =>
    rw [h1, Option.bind_some] at ev
    refine ⟨b, G, as, B, o, ex, bg, is, l, h1, ?_⟩
    cases o with
    | ro c1 B1 =>
      cases ev
      exact k
    | _ => cases ev
theorem fn_ok {x qual : Str} {st : Stmt} {f : Addr} {fd : FuncData} {N ps : List Str} {k : Nat} {g : DS} (F : Fun K x qual st f fd) (S : FnScope N ps (defScope st))
    (h : ∀ (b : Addr) (cdv : Value) (A : Around) (outer : List PySem.Env) (s : Shared) (H : Hp) (E : XK), Room k (A.deeper (PyProof.Rows.envOfC qual (defScope st) s.heap.objs.size f cdv)) → A.guards = some [] → PDSs (cxOf CX0 P w K mg base N qual (defScope st) f cdv A outer s H E).nox b (defBody st) g) :
    FnG P w K mg base (k + 1) f fd ps (spD K ps.length (dFn N.length g)) := (fn_out F S h).imp out_d
theorem fn_okO {x qual : Str} {st : Stmt} {f : Addr} {fd : FuncData} {N ps : List Str} {k : Nat} {g : DS} (F : Fun K x qual st f fd) (S : FnScope N ps (defScope st))
    (h : ∀ (b : Addr) (cdv : Value) (A : Around) (outer : List PySem.Env) (s : Shared) (H : Hp) (E : XK), Room k (A.deeper (PyProof.Rows.envOfC qual (defScope st) s.heap.objs.size f cdv)) → A.guards = some [] → PDSs (cxOf CX0 P w K mg base N qual (defScope st) f cdv A outer s H E).nox b (defBody st) g) :
    FnG P w K mg base (k + 1) f fd ps (spDO K ps.length (dFnO N.length g)) := (fn_out F S h).imp out_o
/-- the def that a name of the text's top means -/
structure Def (P : Program) (w : World) (K : PySem.W.Frag) (mg : Str → Option Value) (base : Heap) (k : Nat) (x : Str) (n : Nat) (F : DF) : Prop where
  ex : ∃ (f : Addr) (fd : FuncData) (ps : List Str), FnG P w K mg base k f fd ps (spD K n F) ∧ mg x = some (.ref f) ∧ PySem.W.keepIn K (.ref f) = true ∧ Binds K fd ps []
theorem Def.mono {k j : Nat} {x : Str} {n : Nat} {F : DF} (d : Def P w K mg base j x n F) (h : j ≤ k) : Def P w K mg base k x n F :=
  let ⟨f, fd, ps, q, r⟩ := d.ex
  ⟨⟨f, fd, ps, q.mono h, r⟩⟩
end
section
variable {P : Program} {w : World} {K : PySem.W.Frag} {mg : Str → Option Value} {base : Heap}
structure DefO (P : Program) (w : World) (K : PySem.W.Frag) (mg : Str → Option Value) (base : Heap) (k : Nat) (x : Str) (n : Nat) (F : DFO) : Prop where
  ex : ∃ (f : Addr) (fd : FuncData) (ps : List Str), FnG P w K mg base k f fd ps (spDO K n F) ∧ mg x = some (.ref f) ∧ PySem.W.keepIn K (.ref f) = true ∧ Binds K fd ps []
/-- held as a datum from then on -/
def dFzF (F : DFO) : DF := fun as B => (F as B).map fun p => (p.1.data, p.2)
theorem DefO.d {k : Nat} {x : Str} {n : Nat} {F : DFO} (d : DefO P w K mg base k x n F) : Def P w K mg base k x n (dFzF F) :=
  let ⟨f, fd, ps, q, r⟩ := d.ex
  ⟨⟨f, fd, ps, q.imp fun vs H Q E ⟨b, G, as, B, d, B', ex, bg, is, l, ev, k⟩ => by
    unfold dFzF at ev
    cases h : F as B with
    | none => rw [h] at ev; cases ev
    | some p =>
      rw [h] at ev
      cases ev
      exact ⟨b, G, as, B, p.1, p.2, ex, bg, is, l, h, PostO.of_post k⟩, r⟩⟩
end
def dCall (n : Nat) (F : DF) (as : List DAr) : DE := fun env B => (dArgs as env B).bind fun p => if p.1.length = n then F p.1 p.2 else none
section
variable {X : Cx} {b : Addr} {pos : Pos} {e e1 e2 : Expr} {f f1 f2 : DE}
theorem runG {pins : List (Addr × Obj)} {σ : L2.St} {H : Hp} {s : Shared} {Q : VK} {us : List Value} {vs : List V} {k : Nat} {fa : Addr} {fd : FuncData} {ps : List Str} {sp : Sp} (F : FnG X.prog X.w X.K X.mg X.base k fa fd ps sp) (room : Room k X.A) (gs : X.A.guards = some []) (bi : Binds X.K fd ps [])
    (I : Inv X pins σ H s) (r : Vals vs us) (h : sp vs H Q fun _ _ _ => False) : wpAny (model X.prog X.w) X.A (call (.ref fa) us) (EP X pins σ Q) X.xe s := by
  have same : us.length = ps.length := r.length.symm.trans (F.len _ _ _ _ h)
  have bd := bi s us I.kIn (by rw [List.append_nil]; exact same)
  rw [List.append_nil] at bd
  have ran := F.go X.A X.stack s H ⟨us, []⟩ us vs Q (fun _ _ _ => False) room gs I.env0 bd r h
  refine wpAny_call (codeAny_mono ran fun out s' ho => ?_)
  match out, ho with
  | .error _, z => exact z.elim
  | .ok (.ret u), z => exact I.after z
  | .ok .next, z => exact z.elim
  | .ok .brk, z => exact z.elim
  | .ok .cont, z => exact z.elim
theorem pd_call {k j : Nat} {x : Str} {n : Nat} {F : DF} {es : List Expr} {as : List DAr} {p : Pos} (D : Def X.prog X.w X.K X.mg X.base j x n F) (hr : Room k X.A) (gs : X.A.guards = some []) (hj : j ≤ k) (hg : Gl X x) (ha : PDA X b (e :: es) as)
    (hdb : (x == ("__debug__" : Str)) = false := by decide) (he : starEach (e :: es) X.env = (false, eval e X.env) :: starEach es X.env := by rfl) (hpl : (backTo pos (starEach es X.env)).any (·.1) = false := by rfl) :
    PD X b (.Call (.Name x p) (e :: es) [] pos) (dCall n F as) := by
  obtain ⟨fa, fd, ps, ok, hm, hk, hb⟩ := D.ex
  constructor
  intro pins s σ H Q I ⟨G, env, B, d, B', st, ev, kk⟩
  have args := ha.run pos pins s σ H (fun vs H1 => spD X.K n F vs H1 Q fun _ _ _ => False) I
  have told : tDA X.K b (dArgs as) σ H (fun vs H1 => spD X.K n F vs H1 Q fun _ _ _ => False) := by
    unfold dCall at ev
    cases h1 : dArgs as env B with
    | none => rw [h1] at ev; cases ev
    | some q =>
      obtain ⟨xs, B1⟩ := q
      rw [h1, Option.bind_some] at ev
      dsimp only at ev
      split at ev
      · exact ⟨G, env, B, xs, B1, st, h1, fun vs G1 H1 fr ex bg is => ⟨b, G1, xs, B1, d, B', ex, bg, is, by assumption, ev, kk.go fr⟩⟩
      · cases ev
  refine wpAny_Call_Name_kw (ld_glob I hg hm ?_ hdb)
  exact PySem.W.callWith_K (h₀ := X.base) I.ok.mod.kin hk (thn (args told) fun us s1 ⟨vs, H1, I1, r, q⟩ => ⟨I1.kIn, runG (Q := Q) ok (hr.mono hj) gs hb I1 r q⟩) he hpl
theorem pd_call0 {k j : Nat} {x : Str} {F : DF} {p : Pos} (D : Def X.prog X.w X.K X.mg X.base j x 0 F) (hr : Room k X.A) (gs : X.A.guards = some []) (hj : j ≤ k) (hg : Gl X x) (hdb : (x == ("__debug__" : Str)) = false := by decide) :
    PD X b (.Call (.Name x p) [] [] pos) (dCall 0 F []) := by
  obtain ⟨fa, fd, ps, ok, hm, hk, hb⟩ := D.ex
  constructor
  intro pins s σ H Q I ⟨G, env, B, d, B', st, ev, kk⟩
  have ran := runG (Q := Q) (us := []) (vs := []) ok (hr.mono hj) gs hb I .nil ⟨b, G, [], B, d, B', st.ex, st.bag, .nil, rfl, ev, kk⟩
  exact wpAny_Call_Name_kw (ld_glob I hg hm (PySem.W.callWith_K0 I.kIn hk ran) hdb)

/-! ### calls that hand out a new thing -/
def dCallO (n : Nat) (F : DFO) (as : List DAr) : DEO := fun env B => (dArgs as env B).bind fun p => if p.1.length = n then F p.1 p.2 else none
theorem pdn_call {k j : Nat} {x : Str} {n : Nat} {F : DFO} {es : List Expr} {as : List DAr} {p : Pos} (D : DefO X.prog X.w X.K X.mg X.base j x n F) (hr : Room k X.A) (gs : X.A.guards = some []) (hj : j ≤ k) (hg : Gl X x) (ha : PDA X b (e :: es) as)
    (hdb : (x == ("__debug__" : Str)) = false := by decide) (he : starEach (e :: es) X.env = (false, eval e X.env) :: starEach es X.env := by rfl) (hpl : (backTo pos (starEach es X.env)).any (·.1) = false := by rfl) :
    PDN X b (.Call (.Name x p) (e :: es) [] pos) (dCallO n F as) := by
  obtain ⟨fa, fd, ps, ok, hm, hk, hb⟩ := D.ex
  constructor
  intro pins s σ H Q I ⟨G, env, B, d, B', st, ev, kk⟩
  have args := ha.run pos pins s σ H (fun vs H1 => spDO X.K n F vs H1 Q fun _ _ _ => False) I
  have told : tDA X.K b (dArgs as) σ H (fun vs H1 => spDO X.K n F vs H1 Q fun _ _ _ => False) := by
    unfold dCallO at ev
    cases h1 : dArgs as env B with
    | none => rw [h1] at ev; cases ev
    | some q =>
      obtain ⟨xs, B1⟩ := q
      rw [h1, Option.bind_some] at ev
      dsimp only at ev
      split at ev
      · exact ⟨G, env, B, xs, B1, st, h1, fun vs G1 H1 fr ex bg is => ⟨b, G1, xs, B1, d, B', ex, bg, is, by assumption, ev, kk.go fr⟩⟩
      · cases ev
  refine wpAny_Call_Name_kw (ld_glob I hg hm ?_ hdb)
  exact PySem.W.callWith_K (h₀ := X.base) I.ok.mod.kin hk (thn (args told) fun us s1 ⟨vs, H1, I1, r, q⟩ => ⟨I1.kIn, runG (Q := Q) ok (hr.mono hj) gs hb I1 r q⟩) he hpl
theorem pdn_call0 {k j : Nat} {x : Str} {F : DFO} {p : Pos} (D : DefO X.prog X.w X.K X.mg X.base j x 0 F) (hr : Room k X.A) (gs : X.A.guards = some []) (hj : j ≤ k) (hg : Gl X x) (hdb : (x == ("__debug__" : Str)) = false := by decide) :
    PDN X b (.Call (.Name x p) [] [] pos) (dCallO 0 F []) := by
  obtain ⟨fa, fd, ps, ok, hm, hk, hb⟩ := D.ex
  constructor
  intro pins s σ H Q I ⟨G, env, B, d, B', st, ev, kk⟩
  have ran := runG (Q := Q) (us := []) (vs := []) ok (hr.mono hj) gs hb I .nil ⟨b, G, [], B, d, B', st.ex, st.bag, .nil, rfl, ev, kk⟩
  exact wpAny_Call_Name_kw (ld_glob I hg hm (PySem.W.callWith_K0 I.kIn hk ran) hdb)
/-! ### built-ins by their names -/
theorem pd_cb {x : Str} {id : String} {r : List V → Hp → VK → Prop} {g : List PyData → Option PyData} {es : List Expr} {as : List DAr} {p : Pos} (hc : CallR X (.builtin id) r) (hr : RLD X.K r g) (hg : Gl X x) (hm : X.mg x = none) (hv : bootBuiltins x = some (.builtin id)) (ha : PDA X b (e :: es) as)
    (hn : x ≠ "__name__" := by decide) (hd : (x == ("__debug__" : Str)) = false := by decide) (he : starEach (e :: es) X.env = (false, eval e X.env) :: starEach es X.env := by rfl) (hpl : (backTo pos (starEach es X.env)).any (·.1) = false := by rfl) :
    PD X b (.Call (.Name x p) (e :: es) [] pos) (dCB g as) := PE.imp (pe_callB hc hg hm hv ha hn hd he hpl) (tD_cb hr)
theorem pd_ct {x : Str} {T : String} {r : List V → Hp → VK → Prop} {g : List PyData → Option PyData} {es : List Expr} {as : List DAr} {p : Pos} (hc : CallR X (.type T) r) (hr : RLD X.K r g) (hg : Gl X x) (hm : X.mg x = none) (hv : bootBuiltins x = some (.type T)) (ha : PDA X b (e :: es) as)
    (hn : x ≠ "__name__" := by decide) (hd : (x == ("__debug__" : Str)) = false := by decide) (he : starEach (e :: es) X.env = (false, eval e X.env) :: starEach es X.env := by rfl) (hpl : (backTo pos (starEach es X.env)).any (·.1) = false := by rfl) :
    PD X b (.Call (.Name x p) (e :: es) [] pos) (dCB g as) := PE.imp (pe_callTy hc hg hm hv ha hn hd he hpl) (tD_cb hr)
end

/-! ### operators -/
def gAdd : PyData → PyData → Option PyData
  | .int i, .int j => some (.int (i + j))
  | .str x, .str y => if x.length + y.length ≤ 100000 then some (.str (x ++ y)) else none
  | .list xs, .list ys => if xs.length + ys.length ≤ 100000 then some (.list (xs ++ ys)) else none
  | .tuple xs, .tuple ys => if xs.length + ys.length ≤ 100000 then some (.tuple (xs ++ ys)) else none
  | _, _ => none
def gSub : PyData → PyData → Option PyData
  | .int i, .int j => some (.int (i - j))
  | _, _ => none
def gMul : PyData → PyData → Option PyData
  | .int i, .int j => if (-(2 ^ 64) < i ∧ i < 2 ^ 64) ∨ (-(2 ^ 64) < j ∧ j < 2 ^ 64) then some (.int (i * j)) else none
  | .list xs, .int k => if 0 ≤ k ∧ k ≤ 1000 ∧ xs.length * k.toNat ≤ 100000 then some (.list (List.replicate k.toNat xs).flatten) else none
  | _, _ => none
def gDiv : PyData → PyData → Option PyData
  | .int i, .int j => if 0 < j ∧ j < 1073741824 then some (.int (i / j)) else none
  | _, _ => none
def gMod : PyData → PyData → Option PyData
  | .int i, .int j => if 0 < j then some (.int (i % j)) else none
  | _, _ => none
def gPow : PyData → PyData → Option PyData
  | .int i, .int j => if 0 ≤ j ∧ j ≤ 1000000 ∧ i.natAbs < 2 ^ 64 then some (.int (i ^ j.toNat)) else none
  | _, _ => none
def gLt : PyData → PyData → Option PyData
  | .int i, .int j => some (.bool (decide (i < j)))
  | _, _ => none
def gLe : PyData → PyData → Option PyData
  | .int i, .int j => some (.bool (decide (i ≤ j)))
  | _, _ => none
def gGt : PyData → PyData → Option PyData
  | .int i, .int j => some (.bool (decide (j < i)))
  | _, _ => none
def gGe : PyData → PyData → Option PyData
  | .int i, .int j => some (.bool (decide (j ≤ i)))
  | _, _ => none
def gEq : PyData → PyData → Option PyData := fun a c => if SeqAt.shaped a && SeqAt.shaped c then some (.bool (PyData.eqv a c)) else none
def gNe : PyData → PyData → Option PyData := fun a c => if SeqAt.shaped a && SeqAt.shaped c then some (.bool (!PyData.eqv a c)) else none
def isNone : PyData → Bool
  | .none => true
  | _ => false
def gIs : PyData → PyData → Option PyData
  | a, .none => some (.bool (isNone a))
  | _, _ => none
def gIsNot : PyData → PyData → Option PyData
  | a, .none => some (.bool (!isNone a))
  | _, _ => none
/-- flat data, as == sees them -/
def flatD : PyData → Bool
  | .none => true
  | .bool _ => true
  | .int _ => true
  | .str _ => true
  | _ => false
def inD (x : PyData) (xs : List PyData) : Bool := xs.any fun y => PyData.eqv y x
def gIn : PyData → PyData → Option PyData
  | x, .list ys => if flatD x && ys.all flatD then some (.bool (inD x ys)) else none
  | x, .tuple ys => if flatD x && ys.all flatD then some (.bool (inD x ys)) else none
  | _, _ => none
def gNotIn : PyData → PyData → Option PyData
  | x, .list ys => if flatD x && ys.all flatD then some (.bool (!inD x ys)) else none
  | x, .tuple ys => if flatD x && ys.all flatD then some (.bool (!inD x ys)) else none
  | _, _ => none
def gIx : PyData → PyData → Option PyData
  | .list xs, .int i => atI xs i
  | .tuple xs, .int i => atI xs i
  | _, _ => none
def rAddD (K : PySem.W.Frag) : R2 := fun x y H Q => rI0 (fun i j => V.int (i + j)) x y H Q ∨ (∃ i j, x = V.str i ∧ y = V.str j ∧ i.length + j.length ≤ sizeLine ∧ Q (V.str (i ++ j)) H) ∨ rCat x y H Q ∨ rCatN K x y H Q
theorem op_addD {X : Cx} : OpR X (binaryOp .Add) (rAddD X.K) := op_add.or (op_add_str.or (op_cat.or op_catN))
section
variable {K : PySem.W.Frag}
theorem IsL.nil_iff {G : Hp} {vs : List V} {ds : List PyData} (h : IsL K G vs ds) : vs = [] ↔ ds = [] := by
  cases h <;> simp
theorem r_add : R2D K (rAddD K) gAdd := fun b G H x y a c d B Q ex bg ia ic eg k => by
  unfold gAdd at eg
  split at eg
  · cases ia; cases ic; cases eg
    exact .inl ⟨_, _, rfl, rfl, k.val ex bg (.int _)⟩
  · cases ia; cases ic
    split at eg
    · cases eg
      exact .inr (.inl ⟨_, _, rfl, rfl, sz_of (by assumption), k.val ex bg (.str _)⟩)
    · cases eg
  · split at eg
    · cases eg
      cases ia with
      | lst ha hl => cases ic with
        | lst hc hm =>
          exact .inr (.inr (.inl ⟨_, _, _, _, rfl, rfl, ex _ _ ha, ex _ _ hc, sz_of (by rw [hl.len, hm.len]; assumption), fun p hp => k.lst ex bg hp (hl.append hm)⟩))
    · cases eg
  · split at eg
    · cases eg
      cases ia with
      | tup ha hl => cases ic with
        | tup hc hm =>
          refine .inr (.inr (.inr ⟨_, _, _, _, rfl, rfl, ex_t ex ha.sq, ex_t ex hc.sq, sz_of (by rw [hl.len, hm.len]; assumption), fun e => ?_, fun e => ?_, k.tup ex bg (hl.append hm)⟩))
          · rw [hl.nil_iff] at e
            subst e
            exact k.val ex bg (.tup hc hm)
          · rw [hm.nil_iff] at e
            subst e
            rw [List.append_nil] at k
            exact k.val ex bg (.tup ha hl)
    · cases eg
  · cases eg
theorem r_sub : R2D K (rI0 fun i j => V.int (i - j)) gSub := fun b G H x y a c d B Q ex bg ia ic eg k => by
  unfold gSub at eg
  split at eg
  · cases ia; cases ic; cases eg
    exact ⟨_, _, rfl, rfl, k.val ex bg (.int _)⟩
  · cases eg
theorem IsL.rep {G : Hp} {vs : List V} {ds : List PyData} (h : IsL K G vs ds) : ∀ n : Nat, IsL K G (List.replicate n vs).flatten (List.replicate n ds).flatten
  | 0 => .nil
  | n + 1 => by
    rw [List.replicate_succ, List.replicate_succ, List.flatten_cons, List.flatten_cons]
    exact h.append (IsL.rep h n)
theorem r_div : R2D K (rI CDiv fun i j => V.int (i / j)) gDiv := fun b G H x y a c d B Q ex bg ia ic eg k => by
  unfold gDiv at eg
  split at eg
  · cases ia; cases ic
    split at eg
    · cases eg
      exact ⟨_, _, rfl, rfl, by assumption, k.val ex bg (.int _)⟩
    · cases eg
  · cases eg
theorem r_mod : R2D K (rI (fun _ j => 0 < j) fun i j => V.int (i % j)) gMod := fun b G H x y a c d B Q ex bg ia ic eg k => by
  unfold gMod at eg
  split at eg
  · cases ia; cases ic
    split at eg
    · cases eg
      exact ⟨_, _, rfl, rfl, by assumption, k.val ex bg (.int _)⟩
    · cases eg
  · cases eg
theorem r_pow : R2D K (rI CPow fun i j => V.int (i ^ j.toNat)) gPow := fun b G H x y a c d B Q ex bg ia ic eg k => by
  unfold gPow at eg
  split at eg
  · cases ia; cases ic
    split at eg
    · cases eg
      exact ⟨_, _, rfl, rfl, by assumption, k.val ex bg (.int _)⟩
    · cases eg
  · cases eg
theorem r_lt : R2D K (rI0 fun i j => V.bl (decide (i < j))) gLt := fun b G H x y a c d B Q ex bg ia ic eg k => by
  unfold gLt at eg
  split at eg
  · cases ia; cases ic; cases eg
    exact ⟨_, _, rfl, rfl, k.val ex bg (.bl _)⟩
  · cases eg
theorem r_le : R2D K (rI0 fun i j => V.bl (decide (i ≤ j))) gLe := fun b G H x y a c d B Q ex bg ia ic eg k => by
  unfold gLe at eg
  split at eg
  · cases ia; cases ic; cases eg
    exact ⟨_, _, rfl, rfl, k.val ex bg (.bl _)⟩
  · cases eg
theorem r_gt : R2D K (rI0 fun i j => V.bl (decide (j < i))) gGt := fun b G H x y a c d B Q ex bg ia ic eg k => by
  unfold gGt at eg
  split at eg
  · cases ia; cases ic; cases eg
    exact ⟨_, _, rfl, rfl, k.val ex bg (.bl _)⟩
  · cases eg
theorem r_ge : R2D K (rI0 fun i j => V.bl (decide (j ≤ i))) gGe := fun b G H x y a c d B Q ex bg ia ic eg k => by
  unfold gGe at eg
  split at eg
  · cases ia; cases ic; cases eg
    exact ⟨_, _, rfl, rfl, k.val ex bg (.bl _)⟩
  · cases eg
mutual
theorem Is.dp {G H : Hp} (e : Ex G H) : ∀ {v : V} {d : PyData}, Is K G v d → d.canLay0 = true → Dp K H v d
  | _, _, .non, _ => .non
  | _, _, .bl b, _ => .bl b
  | _, _, .int b, _ => .int b
  | _, _, .str b, _ => .str b
  | _, _, .lst h r, c => .lst (sq_of (e _ _ h)) (IsL.dp e r (by simpa [PyData.canLay0] using c))
  | _, _, .tup h r, c => .tup (ex_t e h.sq) (IsL.dp e r (by simpa [PyData.canLay0] using c))
  | _, _, .dct h r, c => by simp [PyData.canLay0] at c
theorem IsL.dp {G H : Hp} (e : Ex G H) : ∀ {v : List V} {d : List PyData}, IsL K G v d → PyData.canLayAll0 d = true → DpAll K H v d
  | _, _, .nil, _ => .nil
  | _, _, .cons h r, c => by
    simp only [PyData.canLayAll0, Bool.and_eq_true] at c
    exact .cons (Is.dp e h c.1) (IsL.dp e r c.2)
end
theorem Is.dpS {G H : Hp} {v : V} {d : PyData} (e : Ex G H) (h : Is K G v d) (s : SeqAt.shaped d = true) : Dp K H v d := h.dp e (SeqAt.canLay_of_shaped s)
theorem r_eq : R2D K (rEqD K) gEq := fun b G H x y a c d B Q ex bg ia ic eg k => by
  unfold gEq at eg
  split at eg
  · rename_i h
    rw [Bool.and_eq_true] at h
    cases eg
    exact ⟨a, c, ia.dpS ex h.1, ic.dpS ex h.2, h.1, h.2, k.val ex bg (.bl _)⟩
  · cases eg
theorem r_ne : R2D K (rNeD K) gNe := fun b G H x y a c d B Q ex bg ia ic eg k => by
  unfold gNe at eg
  split at eg
  · rename_i h
    rw [Bool.and_eq_true] at h
    cases eg
    exact ⟨a, c, ia.dpS ex h.1, ic.dpS ex h.2, h.1, h.2, k.val ex bg (.bl _)⟩
  · cases eg
theorem Is.isNone {G : Hp} {v : V} {d : PyData} (h : Is K G v d) : decide (v = .non) = Dl.isNone d := by
  cases h <;> first | rfl | exact decide_eq_false (fun z => nomatch z)
theorem r_is : R2D K (fun x y H Q => y = V.non ∧ Q (V.bl (decide (x = V.non))) H) gIs := fun b G H x y a c d B Q ex bg ia ic eg k => by
  unfold gIs at eg
  split at eg
  · cases ic; cases eg
    rw [ia.isNone]
    exact ⟨rfl, k.val ex bg (.bl _)⟩
  · cases eg
theorem r_isnot : R2D K (fun x y H Q => y = V.non ∧ Q (V.bl (!decide (x = V.non))) H) gIsNot := fun b G H x y a c d B Q ex bg ia ic eg k => by
  unfold gIsNot at eg
  split at eg
  · cases ic; cases eg
    rw [ia.isNone]
    exact ⟨rfl, k.val ex bg (.bl _)⟩
  · cases eg
theorem Is.flat {G : Hp} {v : V} {d : PyData} (h : Is K G v d) (f : flatD d = true) : flatV v = true := by
  cases h <;> first | rfl | cases f
theorem IsL.flat {G : Hp} : ∀ {vs : List V} {ds : List PyData}, IsL K G vs ds → ds.all flatD = true → vs.all flatV = true
  | _, _, .nil, _ => rfl
  | _, _, .cons h r, f => by
    rw [List.all_cons, Bool.and_eq_true] at f ⊢
    exact ⟨h.flat f.1, IsL.flat r f.2⟩
theorem Is.eqv {G : Hp} {v w : V} {d e : PyData} (h : Is K G v d) (i : Is K G w e) (f : flatD d = true) (f' : flatD e = true) : eqV v w = PyData.eqv d e := by
  cases h <;> cases i <;> first | rfl | (cases f; done) | (cases f'; done) | (simp [eqV, PyData.eqv])
theorem IsL.inv {G : Hp} {w : V} {e : PyData} (i : Is K G w e) (f' : flatD e = true) : ∀ {vs : List V} {ds : List PyData}, IsL K G vs ds → ds.all flatD = true → inV w vs = inD e ds
  | _, _, .nil, _ => rfl
  | _, _, .cons h r, f => by
    rw [List.all_cons, Bool.and_eq_true] at f
    have q := IsL.inv i f' r f.2
    unfold inV inD at q ⊢
    rw [List.any_cons, List.any_cons, q, h.eqv i f.1 f']
theorem r_in : R2D K (rIn K false) gIn := fun b G H x y a c d B Q ex bg ia ic eg k => by
  unfold gIn at eg
  split at eg
  · split at eg
    · rename_i h
      rw [Bool.and_eq_true] at h
      cases eg
      cases ic with
      | lst hc hm => exact ⟨_, _, rfl, .inl (sq_of (ex _ _ hc)), ia.flat h.1, hm.flat h.2, by rw [if_neg Bool.false_ne_true, IsL.inv ia h.1 hm h.2]; exact k.val ex bg (.bl _)⟩
    · cases eg
  · split at eg
    · rename_i h
      rw [Bool.and_eq_true] at h
      cases eg
      cases ic with
      | tup hc hm => exact ⟨_, _, rfl, .inr (ex_t ex hc.sq), ia.flat h.1, hm.flat h.2, by rw [if_neg Bool.false_ne_true, IsL.inv ia h.1 hm h.2]; exact k.val ex bg (.bl _)⟩
    · cases eg
  · cases eg
theorem r_notin : R2D K (rIn K true) gNotIn := fun b G H x y a c d B Q ex bg ia ic eg k => by
  unfold gNotIn at eg
  split at eg
  · split at eg
    · rename_i h
      rw [Bool.and_eq_true] at h
      cases eg
      cases ic with
      | lst hc hm => exact ⟨_, _, rfl, .inl (sq_of (ex _ _ hc)), ia.flat h.1, hm.flat h.2, by rw [if_pos rfl, IsL.inv ia h.1 hm h.2]; exact k.val ex bg (.bl _)⟩
    · cases eg
  · split at eg
    · rename_i h
      rw [Bool.and_eq_true] at h
      cases eg
      cases ic with
      | tup hc hm => exact ⟨_, _, rfl, .inr (ex_t ex hc.sq), ia.flat h.1, hm.flat h.2, by rw [if_pos rfl, IsL.inv ia h.1 hm h.2]; exact k.val ex bg (.bl _)⟩
    · cases eg
  · cases eg
theorem IsL.atI {G : Hp} {vs : List V} {ds : List PyData} {i : Int} {d : PyData} (h : IsL K G vs ds) (e : atI ds i = some d) : ∃ v, L2.atI vs i = some v ∧ Is K G v d := by
  unfold L2.atI at e ⊢
  rw [h.len]
  cases q : ixN ds.length i with
  | none => rw [q] at e; cases e
  | some j =>
    rw [q, Option.bind_some] at e
    exact h.get e
def rIxD (K : PySem.W.Frag) : R2 := fun x y H Q => rIxL K x y H Q ∨ rIxT K x y H Q
theorem ix_D {X : Cx} : IxR X (rIxD X.K) := ix_list.or ix_tup
theorem r_ix : R2D K (rIxD K) gIx := fun b G H x y a c d B Q ex bg ia ic eg k => by
  unfold gIx at eg
  split at eg
  · cases ic
    cases ia with
    | lst ha hl =>
      obtain ⟨v, h1, h2⟩ := hl.atI eg
      exact .inl ⟨_, _, _, v, rfl, rfl, sq_of (ex _ _ ha), h1, k.val ex bg h2⟩
  · cases ic
    cases ia with
    | tup ha hl =>
      obtain ⟨v, h1, h2⟩ := hl.atI eg
      exact .inr ⟨_, _, _, v, rfl, rfl, ex_t ex ha.sq, h1, k.val ex bg h2⟩
  · cases eg
end
end Dl

/-! DE: further operations on data: products, slices, len, abs, int, max, min, list, tuple; insert, extend, a store at a place. -/
namespace Dl
open PySem L2 Evl

section
variable {K : PySem.W.Frag}
def rMulD : R2 := fun x y H Q => rI CMul (fun i j => V.int (i * j)) x y H Q ∨ rRep x y H Q
theorem op_mulD {X : Cx} : OpR X (binaryOp .Mult) rMulD := op_mul.or op_rep
theorem r_mul : R2D K rMulD gMul := fun b G H x y a c d B Q ex bg ia ic eg k => by
  unfold gMul at eg
  split at eg
  · cases ia; cases ic
    split at eg
    · cases eg
      exact .inl ⟨_, _, rfl, rfl, by assumption, k.val ex bg (.int _)⟩
    · cases eg
  · split at eg
    · rename_i h
      cases eg
      cases ic
      cases ia with
      | lst ha hl => exact .inr ⟨_, _, _, rfl, rfl, ex _ _ ha, by omega, by omega, sz_of (by rw [hl.len]; exact h.2.2), fun p hp => k.lst ex bg hp (hl.rep _)⟩
    · cases eg
  · cases eg
/-! ### slices -/
def cutD (xs : List PyData) (lo hi : Option Int) : List PyData := List.take (HT.sIx xs.length xs.length hi - HT.sIx xs.length 0 lo) (List.drop (HT.sIx xs.length 0 lo) xs)
theorem IsL.cut {G : Hp} {vs : List V} {ds : List PyData} (h : IsL K G vs ds) (lo hi : Option Int) : IsL K G (cutV vs lo hi) (cutD ds lo hi) := by
  unfold cutV cutD
  rw [h.len]
  exact (h.drop _).take _
def gSl : PyData → Option Int → Option Int → Option PyData
  | .list xs, lo, hi => some (.list (cutD xs lo hi))
  | .tuple xs, lo, hi => some (.tuple (cutD xs lo hi))
  | _, _, _ => none
def rSlD (K : PySem.W.Frag) : V → Option Int → Option Int → Hp → VK → Prop := fun x lo hi H Q => rSlL K x lo hi H Q ∨ rSlN K x lo hi H Q
theorem sl_D {X : Cx} : SlR X (rSlD X.K) := sl_list.or sl_tupN
theorem cut_all {α : Type} {xs : List α} {lo hi : Option Int} (h : HT.sIx xs.length 0 lo = 0 ∧ HT.sIx xs.length xs.length hi = xs.length) : List.take (HT.sIx xs.length xs.length hi - HT.sIx xs.length 0 lo) (List.drop (HT.sIx xs.length 0 lo) xs) = xs := by
  rw [h.1, h.2, List.drop_zero, Nat.sub_zero, List.take_length]
theorem r_sl {b : Addr} {G H : Hp} {x : V} {a d : PyData} {lo hi : Option Int} {B : Bg} {Q : VK} (ex : Ex G H) (bg : BagAt b G H B) (ia : Is K G x a) (eg : gSl a lo hi = some d) (k : Post K b G H d B Q) : rSlD K x lo hi H Q := by
  unfold gSl at eg
  split at eg
  · cases eg
    cases ia with
    | lst ha hl => exact .inl ⟨_, _, rfl, sq_of (ex _ _ ha), fun p hp => k.lst ex bg hp (hl.cut lo hi)⟩
  · cases eg
    cases ia with
    | tup ha hl =>
      refine .inr ⟨_, _, rfl, ex_t ex ha.sq, fun h => ?_, k.tup ex bg (hl.cut lo hi)⟩
      rw [hl.len] at h
      have e := cut_all h
      unfold cutD at k
      rw [e] at k
      exact k.val ex bg (.tup ha hl)
  · cases eg
abbrev DO := Env → Bg → Option (Option Int × Bg)
def oNo : DO := fun _ B => some (none, B)
def oOf (f : DE) : DO := fun env B => (f env B).bind fun p => match p.1 with
  | .int i => some (some i, p.2)
  | _ => none
def tDO (K : PySem.W.Frag) (b : Addr) (o : DO) : TO := fun σ H Q => ∃ G env B i B', St K b G σ H env B ∧ o env B = some (i, B') ∧ ∀ G' H', Frm b G H G' H' → Ex G' H' → BagAt b G' H' B' → Q i H'
def PDO (X : Cx) (b : Addr) (e : Option Expr) (o : DO) : Prop := PO X e (tDO X.K b o)
theorem PO.imp {X : Cx} {e : Option Expr} {t t' : TO} (h : PO X e t) (i : ∀ σ H Q, t' σ H Q → t σ H Q) : PO X e t' := ⟨fun pins s σ H Q I q => h.run pins s σ H Q I (i σ H Q q)⟩
end
section
variable {X : Cx} {b : Addr} {pos : Pos} {e e1 e2 : Expr} {f f1 f2 : DE}
theorem pdo_no : PDO X b none oNo := PO.imp po_none fun σ H Q ⟨G, env, B, i, B', s, ev, k⟩ => by
  cases ev
  exact k G H Frm.refl s.ex s.bag
theorem pdo_of (h : PD X b e f) : PDO X b (some e) (oOf f) := PO.imp (po_some h) fun σ H Q ⟨G, env, B, i, B', s, ev, k⟩ => by
  unfold oOf at ev
  cases h1 : f env B with
  | none => rw [h1] at ev; cases ev
  | some p =>
    obtain ⟨d, B1⟩ := p
    rw [h1, Option.bind_some] at ev
    dsimp only at ev
    split at ev
    · cases ev
      refine ⟨G, env, B, _, _, s, h1, fun v G1 H1 fr ex bg is => ?_⟩
      cases is
      exact ⟨_, rfl, k G1 H1 fr ex bg⟩
    · cases ev
def dSl (f : DE) (lo hi : DO) : DE := fun env B => (f env B).bind fun p => (lo env p.2).bind fun l => (hi env l.2).bind fun h => (gSl p.1 l.1 h.1).map fun d => (d, h.2)
theorem pd_slice {lo hi : Option Expr} {l h : DO} {p2 : Pos} (h1 : PD X b e f) (h2 : PDO X b lo l) (h3 : PDO X b hi h) : PD X b (.Subscript e (.Slice lo hi none p2) pos) (dSl f l h) := PE.imp (pe_slice sl_D h1 h2 h3) fun σ H Q ⟨G, env, B, d, B', s, ev, k⟩ => by
  unfold dSl at ev
  cases e1 : f env B with
  | none => rw [e1] at ev; cases ev
  | some p =>
    obtain ⟨a, B1⟩ := p
    rw [e1, Option.bind_some] at ev
    dsimp only at ev
    cases e2 : l env B1 with
    | none => rw [e2] at ev; cases ev
    | some p =>
      obtain ⟨lo1, B2⟩ := p
      rw [e2, Option.bind_some] at ev
      dsimp only at ev
      cases e3 : h env B2 with
      | none => rw [e3] at ev; cases ev
      | some p =>
        obtain ⟨hi1, B3⟩ := p
        rw [e3, Option.bind_some] at ev
        dsimp only at ev
        cases e4 : gSl a lo1 hi1 with
        | none => rw [e4] at ev; cases ev
        | some d1 =>
          rw [e4] at ev
          simp only [Option.map_some, Option.some.injEq, Prod.mk.injEq] at ev
          obtain ⟨rfl, rfl⟩ := ev
          refine ⟨G, env, B, a, B1, s, e1, fun v G1 H1 fr1 ex1 bg1 is1 => ?_⟩
          refine ⟨G1, env, B1, lo1, B2, s.step fr1 ex1 bg1, e2, fun G2 H2 fr2 ex2 bg2 => ?_⟩
          have fr12 := fr1.trans fr2 bg2.1
          refine ⟨G2, env, B2, hi1, B3, s.step fr12 ex2 bg2, e3, fun G3 H3 fr3 ex3 bg3 => ?_⟩
          exact r_sl ex3 bg3 (is1.mono (fr2.ex.trans fr3.ex)) e4 (k.go (fr12.trans fr3 bg3.1))
end
/-! ### built-ins -/
section
variable {K : PySem.W.Frag}
def gLen : List PyData → Option PyData
  | [.list xs] => some (.int xs.length)
  | [.tuple xs] => some (.int xs.length)
  | [.str x] => if x.length ≤ 100000 then some (.int x.length) else none
  | _ => none
theorem r_len : RLD K (fun xs H Q => ∃ x n, xs = [x] ∧ LenV K x H n ∧ Q (V.int (n : Nat)) H) gLen := fun b G H xs as d B Q ex bg is eg k => by
  unfold gLen at eg
  split at eg
  · cases eg
    cases is with
    | cons h r =>
      cases r
      cases h with
      | lst ha hl => exact ⟨_, _, rfl, .inl ⟨_, sq_of (ex _ _ ha), rfl⟩, by rw [hl.len]; exact k.val ex bg (.int _)⟩
  · cases eg
    cases is with
    | cons h r =>
      cases r
      cases h with
      | tup ha hl => exact ⟨_, _, rfl, .inr ⟨_, ex_t ex ha.sq, rfl⟩, by rw [hl.len]; exact k.val ex bg (.int _)⟩
  · split at eg
    · cases eg
      cases is with
      | cons h r =>
        cases r
        cases h
        exact ⟨_, _, rfl, ⟨sz_of (by assumption), rfl⟩, k.val ex bg (.int _)⟩
    · cases eg
  · cases eg
def gAbs : List PyData → Option PyData
  | [.int i] => some (.int (if i < 0 then -i else i))
  | _ => none
theorem r_abs : RLD K (fun xs H Q => ∃ i, xs = [V.int i] ∧ Q (V.int (if i < 0 then -i else i)) H) gAbs := fun b G H xs as d B Q ex bg is eg k => by
  unfold gAbs at eg
  split at eg
  · cases eg
    cases is with
    | cons h r =>
      cases r
      cases h
      exact ⟨_, rfl, k.val ex bg (.int _)⟩
  · cases eg
def gInt : List PyData → Option PyData
  | [.int i] => some (.int i)
  | [.bool k] => some (.int (if k = true then 1 else 0))
  | _ => none
theorem r_int : RLD K (fun xs H Q => (∃ i, xs = [V.int i] ∧ Q (V.int i) H) ∨ ∃ k, xs = [V.bl k] ∧ Q (V.int (if k = true then 1 else 0)) H) gInt := fun b G H xs as d B Q ex bg is eg k => by
  unfold gInt at eg
  split at eg
  · cases eg
    cases is with
    | cons h r =>
      cases r
      cases h
      exact .inl ⟨_, rfl, k.val ex bg (.int _)⟩
  · cases eg
    cases is with
    | cons h r =>
      cases r
      cases h
      exact .inr ⟨_, rfl, k.val ex bg (.int _)⟩
  · cases eg
def gMax : List PyData → Option PyData
  | [.int i, .int j] => some (.int (if j > i then j else i))
  | _ => none
theorem r_max : RLD K (fun xs H Q => ∃ i j, xs = [V.int i, V.int j] ∧ Q (V.int (if j > i then j else i)) H) gMax := fun b G H xs as d B Q ex bg is eg k => by
  unfold gMax at eg
  split at eg
  · cases eg
    cases is with
    | cons h r =>
      cases r with
      | cons h2 r =>
        cases r
        cases h
        cases h2
        exact ⟨_, _, rfl, k.val ex bg (.int _)⟩
  · cases eg
def gMin : List PyData → Option PyData
  | [.int i, .int j] => some (.int (if j < i then j else i))
  | _ => none
theorem r_min : RLD K (fun xs H Q => ∃ i j, xs = [V.int i, V.int j] ∧ Q (V.int (if j < i then j else i)) H) gMin := fun b G H xs as d B Q ex bg is eg k => by
  unfold gMin at eg
  split at eg
  · cases eg
    cases is with
    | cons h r =>
      cases r with
      | cons h2 r =>
        cases r
        cases h
        cases h2
        exact ⟨_, _, rfl, k.val ex bg (.int _)⟩
  · cases eg
def gListOf : List PyData → Option PyData
  | [.list xs] => some (.list xs)
  | [.tuple xs] => some (.list xs)
  | _ => none
theorem r_listOf : RLD K (fun xs H Q => ∃ p ys, xs = [V.ref p] ∧ (SqL K H p ys ∨ SqT K H p ys) ∧ ∀ (l : Addr), H l = none → Q (V.ref l) (upd H l (HO.lst ys))) gListOf := fun b G H xs as d B Q ex bg is eg k => by
  unfold gListOf at eg
  split at eg
  · cases eg
    cases is with
    | cons h r =>
      cases r
      cases h with
      | lst ha hl => exact ⟨_, _, rfl, .inl (sq_of (ex _ _ ha)), fun l hl' => k.lst ex bg hl' hl⟩
  · cases eg
    cases is with
    | cons h r =>
      cases r
      cases h with
      | tup ha hl => exact ⟨_, _, rfl, .inr (ex_t ex ha.sq), fun l hl' => k.lst ex bg hl' hl⟩
  · cases eg
def gTupleOf : List PyData → Option PyData
  | [.list xs] => some (.tuple xs)
  | [.tuple xs] => some (.tuple xs)
  | _ => none
theorem r_tupleOf : RLD K (rTupOf K) gTupleOf := fun b G H xs as d B Q ex bg is eg k => by
  unfold gTupleOf at eg
  split at eg
  · cases eg
    cases is with
    | cons h r =>
      cases r
      cases h with
      | lst ha hl => exact ⟨_, _, rfl, .inl ⟨sq_of (ex _ _ ha), k.tup ex bg hl⟩⟩
  · cases eg
    cases is with
    | cons h r =>
      cases r
      cases h with
      | tup ha hl => exact ⟨_, _, rfl, .inr ⟨ex_t ex ha.sq, k.val ex bg (.tup ha hl)⟩⟩
  · cases eg
end
/-! ### further changes of a list of one's own -/
section
variable {X : Cx} {b : Addr} {pos : Pos} {e e1 e2 : Expr} {f f1 f2 : DE}
def insD (ds : List PyData) (i : Nat) (d : PyData) : List PyData := ds.take i ++ [d] ++ ds.drop i
def dIns (i : Nat) (f1 f2 : DE) : DS := fun env B => (f1 env B).bind fun p => (f2 env p.2).bind fun q => match env[i]?, p.1 with
  | some (.own (.l ds)), .int n => if ds.length < 100000 ∧ 0 ≤ n ∧ n ≤ 100000 then some (.nx (env.set i (.own (.l (insD ds n.toNat q.1)))) q.2) else none
  | _, _ => none
def rInsert : V → List V → Hp → VK → Prop := fun x vs H Q => ∃ (l : Addr) (xs : List V) (i : Int) (y : V), x = .ref l ∧ vs = [.int i, y] ∧ H l = some (.lst xs) ∧ xs.length < sizeLine ∧ 0 ≤ i ∧ i < 2 ^ 63 ∧ Q .non (upd H l (.lst (xs.take i.toNat ++ [y] ++ xs.drop i.toNat)))
theorem mt_ins : MtR X "list.insert" rInsert := mt_insert
theorem pds_insert (i : Nat) {x : Str} {px apos cpos : Pos} (h : PE X e1 (tD X.K b f1) → PE X e2 (tD X.K b f2) → PS X (.Expr (.Call (.Attribute (.Name x px) "insert" apos) [e1, e2] [] cpos) pos) (tDrop (tBM X.K "list" rInsert (tVar i) (tCons (tD X.K b f1) (tCons (tD X.K b f2) tNil))))) (h1 : PD X b e1 f1) (h2 : PD X b e2 f2) :
    PDS X b (.Expr (.Call (.Attribute (.Name x px) "insert" apos) [e1, e2] [] cpos) pos) (dIns i f1 f2) := PS.imp (h h1 h2) fun D σ H ⟨G0, H0, Gm, G, env, B, o, s, ev, k⟩ => by
  unfold dIns at ev
  cases h1 : f1 env B with
  | none => rw [h1] at ev; cases ev
  | some p =>
    obtain ⟨d, B1⟩ := p
    rw [h1, Option.bind_some] at ev
    dsimp only at ev
    cases h2 : f2 env B1 with
    | none => rw [h2] at ev; cases ev
    | some q =>
      obtain ⟨d2, B2⟩ := q
      rw [h2, Option.bind_some] at ev
      dsimp only at ev
      split at ev
      · rename_i ds n he
        split at ev
        · rename_i hz
          cases ev
          obtain ⟨p, xs, q1, q2, q3, q4, q5, _⟩ := own_at s.toSt he (Frm.refl (H := H))
          refine ⟨.ref p, q1, tyV_list q4, G, env, B, _, B1, s.toSt, h1, fun v G1 H1 fr ex bg is => ?_⟩
          cases is
          refine ⟨G1, env, B1, d2, B2, s.toSt.step fr ex bg, h2, fun v2 G2 H2 fr2 ex2 bg2 is2 => ?_⟩
          have fr12 := fr.trans fr2 bg2.1
          obtain ⟨p', xs', r1, _, _, r4, _, r6, r7⟩ := own_at s.toSt he fr12
          rw [q1] at r1
          cases r1
          rw [q4] at r4
          cases r4
          refine ⟨p, xs, n, v2, rfl, rfl, r6, sz_lt (by rw [q5.len]; exact hz.1), hz.2.1, by omega, ?_⟩
          have m := q5.mono fr12.ex
          exact k G2 σ _ ((s.step fr12 ex2 bg2).own he q1 r7 q3 ⟨_, rfl, ((m.take n.toNat).append (.one is2)).append (m.drop n.toNat)⟩)
        · cases ev
      · cases ev
def dExt (i : Nat) (f : DE) : DS := fun env B => (f env B).bind fun p => match env[i]?, p.1 with
  | some (.own (.l ds)), .list es => if ds.length + es.length ≤ 100000 then some (.nx (env.set i (.own (.l (ds ++ es)))) p.2) else none
  | _, _ => none
theorem pds_extend (i : Nat) {x : Str} {px apos cpos : Pos} (h : PE X e (tD X.K b f) → PS X (.Expr (.Call (.Attribute (.Name x px) "extend" apos) [e] [] cpos) pos) (tDrop (tBM X.K "list" rExtend (tVar i) (tCons (tD X.K b f) tNil)))) (h1 : PD X b e f) :
    PDS X b (.Expr (.Call (.Attribute (.Name x px) "extend" apos) [e] [] cpos) pos) (dExt i f) := PS.imp (h h1) fun D σ H ⟨G0, H0, Gm, G, env, B, o, s, ev, k⟩ => by
  unfold dExt at ev
  cases h1 : f env B with
  | none => rw [h1] at ev; cases ev
  | some p =>
    obtain ⟨d, B1⟩ := p
    rw [h1, Option.bind_some] at ev
    dsimp only at ev
    split at ev
    · rename_i ds es he
      split at ev
      · cases ev
        obtain ⟨p, xs, q1, q2, q3, q4, q5, _⟩ := own_at s.toSt he (Frm.refl (H := H))
        refine ⟨.ref p, q1, tyV_list q4, G, env, B, _, B1, s.toSt, h1, fun v G1 H1 fr ex bg is => ?_⟩
        obtain ⟨p', xs', r1, _, _, r4, _, r6, r7⟩ := own_at s.toSt he fr
        rw [q1] at r1
        cases r1
        rw [q4] at r4
        cases r4
        cases is with
        | @lst a ys _ ha hl =>
          refine ⟨p, a, xs, ys, rfl, rfl, r6, ex _ _ ha, sz_of (by rw [q5.len, hl.len]; assumption), ?_⟩
          exact k G1 σ _ ((s.step fr ex bg).own he q1 r7 q3 ⟨_, rfl, (q5.mono fr.ex).append hl⟩)
      · cases ev
    · cases ev
/-- len(xs), xs[i] of a list of one's own, that stays one's own -/
def dLenO (i : Nat) : DE := fun env B => match env[i]? with
  | some (.own (.l ds)) => some (.int ds.length, B)
  | some (.sh (.list ds)) => some (.int ds.length, B)
  | _ => none
theorem pd_lenO (i : Nat) {x : Str} {p px : Pos} (hg : Gl X "len") (hm : X.mg "len" = none) (hx : PE X (.Name x px) (tVar i)) (he : starEach [Expr.Name x px] X.env = (false, eval (.Name x px) X.env) :: starEach [] X.env := by rfl) (hpl : (backTo pos (starEach [] X.env)).any (·.1) = false := by rfl) :
    PD X b (.Call (.Name "len" p) [.Name x px] [] pos) (dLenO i) := PE.imp (pe_callB call_len hg hm PySem.boot_len (pa_cons hx pa_nil he) (by decide) (by decide) he hpl) fun σ H Q ⟨G, env, B, d, B', s, ev, k⟩ => by
  unfold dLenO at ev
  split at ev
  · rename_i ds h
    cases ev
    obtain ⟨p, o, q1, q2, q3, q4, xs, rfl, q5⟩ := s.sl i _ h
    exact ⟨_, q1, _, _, rfl, .inl ⟨_, sq_of q4, rfl⟩, by rw [q5.len]; exact k.val s.ex s.bag (.int _)⟩
  · rename_i ds h
    cases ev
    obtain ⟨v, q1, q2⟩ := s.sl i _ h
    cases q2 with
    | lst ha hl => exact ⟨_, q1, _, _, rfl, .inl ⟨_, sq_of (s.ex _ _ ha), rfl⟩, by rw [hl.len]; exact k.val s.ex s.bag (.int _)⟩
  · cases ev
def dIxO (i : Nat) (f : DE) : DE := fun env B => (f env B).bind fun p => match env[i]?, p.1 with
  | some (.own (.l ds)), .int n => (atI ds n).map fun d => (d, p.2)
  | some (.sh (.list ds)), .int n => (atI ds n).map fun d => (d, p.2)
  | some (.sh (.tuple ds)), .int n => (atI ds n).map fun d => (d, p.2)
  | _, _ => none
theorem pd_ixO (i : Nat) {x : Str} {px : Pos} (hx : PE X (.Name x px) (tVar i)) (h : PD X b e f) (hp : PlainIx e := by exact fun _ _ => rfl) : PD X b (.Subscript (.Name x px) e pos) (dIxO i f) := PE.imp (pe_ix ix_D hx h hp) fun σ H Q ⟨G, env, B, d, B', s, ev, k⟩ => by
  unfold dIxO at ev
  cases h1 : f env B with
  | none => rw [h1] at ev; cases ev
  | some p =>
    obtain ⟨a, B1⟩ := p
    rw [h1, Option.bind_some] at ev
    dsimp only at ev
    split at ev
    · rename_i ds n he
      cases h2 : atI ds n with
      | none => rw [h2] at ev; cases ev
      | some d2 =>
        rw [h2] at ev
        simp only [Option.map_some, Option.some.injEq, Prod.mk.injEq] at ev
        obtain ⟨rfl, rfl⟩ := ev
        obtain ⟨p, xs, q1, q2, q3, q4, q5, _⟩ := own_at s he (Frm.refl (H := H))
        refine ⟨_, q1, G, env, B, _, _, s, h1, fun v G1 H1 fr ex bg is => ?_⟩
        cases is
        obtain ⟨v2, r1, r2⟩ := (q5.mono fr.ex).atI h2
        exact .inl ⟨p, xs, n, v2, rfl, rfl, sq_of (fr.keep p _ q4 q3), r1, (k.go fr).val ex bg r2⟩
    · rename_i ds n he
      cases h2 : atI ds n with
      | none => rw [h2] at ev; cases ev
      | some d2 =>
        rw [h2] at ev
        simp only [Option.map_some, Option.some.injEq, Prod.mk.injEq] at ev
        obtain ⟨rfl, rfl⟩ := ev
        obtain ⟨v, q1, q2⟩ := s.sl i _ he
        cases q2 with
        | lst ha hl =>
          refine ⟨_, q1, G, env, B, _, _, s, h1, fun v G1 H1 fr ex bg is => ?_⟩
          cases is
          obtain ⟨v2, r1, r2⟩ := (hl.mono fr.ex).atI h2
          exact .inl ⟨_, _, n, v2, rfl, rfl, sq_of (ex _ _ (fr.ex _ _ ha)), r1, (k.go fr).val ex bg r2⟩
    · rename_i ds n he
      cases h2 : atI ds n with
      | none => rw [h2] at ev; cases ev
      | some d2 =>
        rw [h2] at ev
        simp only [Option.map_some, Option.some.injEq, Prod.mk.injEq] at ev
        obtain ⟨rfl, rfl⟩ := ev
        obtain ⟨v, q1, q2⟩ := s.sl i _ he
        cases q2 with
        | tup ha hl =>
          refine ⟨_, q1, G, env, B, _, _, s, h1, fun v G1 H1 fr ex bg is => ?_⟩
          cases is
          obtain ⟨v2, r1, r2⟩ := (hl.mono fr.ex).atI h2
          exact .inr ⟨_, _, n, v2, rfl, rfl, ex_t (fr.ex.trans ex) ha.sq, r1, (k.go fr).val ex bg r2⟩
    · cases ev
end
end Dl

namespace Dl
open PySem L2 Evl PyProof.Rows
/-! ### a list or a tuple, walked; unary minus; chains; ranges with two ends -/
section
variable {X : Cx} {b : Addr} {pos : Pos} {e e1 e2 e3 tg : Expr} {f f1 f2 f3 : DE}
def iSeq (K : PySem.W.Frag) (tl : TE) : TI := fun σ H R => tl σ H fun x H1 => ∃ a, x = .ref a ∧ (((∃ xs, SqL K H1 a xs) ∧ R (Itl K a) H1) ∨ ((∃ xs, SqT K H1 a xs) ∧ R (Itt K a) H1))
/-- an iterator just made: its one object at the heap's end -/
theorem pie_new {pins : List (Addr × Obj)} {σ : L2.St} {H : Hp} {s : Shared} {R : It → Hp → Prop} {J : It} {ob : Obj} {tn : Nat → Heap → Prop} (I : Inv X pins σ H s)
    (T : Turn X.prog X.w X.K tg J [s.heap.objs.size] s.heap.objs.size tn) (h0 : tn 0 (s.heap.push ob)) (k : R J H) : PIE X pins σ tg R (.ref s.heap.objs.size) { s with heap := s.heap.push ob } := by
  have free : H s.heap.objs.size = none := I.hok.fresh (Nat.le_refl _)
  have own : ∀ c ∈ [s.heap.objs.size], FpOk X pins H c := fun c hc => by
    rw [List.mem_singleton.mp hc]
    exact I.fpOk (Nat.le_refl _) free
  exact ⟨_, _, tn, J, H, rfl, I.kept (t' := s.toks) (fun _ _ q => Heap.get?_push_of_some _ q), T, h0, own, k⟩
theorem pi_seq {l : Expr} {tl : TE} (hl : PE X l tl) : PI X tg l (iSeq X.K tl) := by
  constructor
  intro pins s σ H R I told
  have value := hl.run pins s σ H _ I told
  refine thn value fun v s1 ⟨x, H1, I1, rel, a, ex, told⟩ => ?_
  subst ex
  cases rel
  rcases told with ⟨⟨xs, hq⟩, k⟩ | ⟨⟨xs, hq⟩, k⟩
  · obtain ⟨is, _, p, _⟩ := I1.list hq
    exact wpAny_pyIter_list p.isList (pie_new I1 (turn_list a _) ⟨_, Heap.get?_push_size _ rfl, rfl, rfl⟩ k)
  · obtain ⟨is, _, p, _⟩ := I1.tuple hq
    have p' : s1.heap.IsTuple a is.toArray := p
    exact wpAny_pyIter_tuple p' (pie_new I1 (turn_tuple a _) ⟨_, Heap.get?_push_size _ rfl, rfl, rfl⟩ k)
def iS (f : DE) : DI := fun env B => (f env B).bind fun p => match p.1 with
  | .list ds => some (ds, p.2)
  | .tuple ds => some (ds, p.2)
  | _ => none
theorem pdi_seq (h : PD X b e f) : PDI X b tg e (iS f) := PI.imp (pi_seq h) fun σ H R ⟨G, env, B, ds, B', s, ev, k⟩ => by
  unfold iS at ev
  cases h1 : f env B with
  | none => rw [h1] at ev; cases ev
  | some p =>
    obtain ⟨a, B1⟩ := p
    rw [h1, Option.bind_some] at ev
    dsimp only at ev
    split at ev
    · cases ev
      refine ⟨G, env, B, _, B', s, h1, fun v G1 H1 fr ex bg is => ?_⟩
      cases is with
      | lst ha hl => exact ⟨_, rfl, .inl ⟨⟨_, sq_of (ex _ _ ha)⟩, k _ G1 H1 fr ex bg (itOk_list ha hl)⟩⟩
    · cases ev
      refine ⟨G, env, B, _, B', s, h1, fun v G1 H1 fr ex bg is => ?_⟩
      cases is with
      | tup ha hl => exact ⟨_, rfl, .inr ⟨⟨_, ex_t ex ha.sq⟩, k _ G1 H1 fr ex bg (itOk_tup ha.sq hl)⟩⟩
    · cases ev
def iR2 (f1 f2 : DE) : DI := fun env B => (f1 env B).bind fun p => (f2 env p.2).bind fun q => match p.1, q.1 with
  | .int m, .int n => if n ≤ 100000 ∧ -100000 ≤ n ∧ m ≤ 100000 ∧ -100000 ≤ m then some (rngD m (n - m).toNat, q.2) else none
  | _, _ => none
theorem pdi_range2 {p : Pos} (hg : Gl X "range") (hm : X.mg "range" = none) (h1 : PD X b e1 f1) (h2 : PD X b e2 f2) (hs : starEach [e1, e2] X.env = [(false, eval e1 X.env), (false, eval e2 X.env)] := by rfl) (hs2 : starEach [e2] X.env = [(false, eval e2 X.env)] := by rfl) :
    PDI X b tg (.Call (.Name "range" p) [e1, e2] [] pos) (iR2 f1 f2) := PI.imp (pi_range2 hg hm (pa_cons h1 (pa_cons h2 pa_nil (by rw [hs2]; rfl)) (by rw [hs, hs2])) hs hs2) fun σ H R ⟨G, env, B, ds, B', s, ev, k⟩ => by
  unfold iR2 at ev
  cases h1 : f1 env B with
  | none => rw [h1] at ev; cases ev
  | some p =>
    obtain ⟨a, B1⟩ := p
    rw [h1, Option.bind_some] at ev
    dsimp only at ev
    cases h2 : f2 env B1 with
    | none => rw [h2] at ev; cases ev
    | some q =>
      obtain ⟨a2, B2⟩ := q
      rw [h2, Option.bind_some] at ev
      dsimp only at ev
      split at ev
      · rename_i m n
        split at ev
        · cases ev
          refine ⟨G, env, B, _, _, s, h1, fun v G1 H1 fr ex bg is => ?_⟩
          cases is
          refine ⟨G1, env, B1, _, _, s.step fr ex bg, h2, fun v G2 H2 fr2 ex2 bg2 is => ?_⟩
          cases is
          exact ⟨m, n, rfl, by omega, k _ G2 H2 (fr.trans fr2 bg2.1) ex2 bg2 itOk_rng⟩
        · cases ev
      · cases ev
def gNeg : PyData → Option PyData
  | .int i => some (.int (-i))
  | _ => none
theorem r_neg {K : PySem.W.Frag} : R1D K (rU fun i => .int (-i)) gNeg := fun b G H x a d B Q ex bg ia eg k => by
  unfold gNeg at eg
  split at eg
  · cases ia; cases eg
    exact ⟨_, rfl, k.val ex bg (.int _)⟩
  · cases eg
def dChain (g1 g2 : PyData → PyData → Option PyData) (f1 f2 f3 : DE) : DE := fun env B => (f1 env B).bind fun p => (f2 env p.2).bind fun q => (g1 p.1 q.1).bind fun t => match t with
  | .bool true => (f3 env q.2).bind fun r => (g2 q.1 r.1).map fun d => (d, r.2)
  | .bool false => some (.bool false, q.2)
  | _ => none
theorem tD_chain {K : PySem.W.Frag} {r r' : R2} {g1 g2 : PyData → PyData → Option PyData} (hr : R2D K r g1) (hr' : R2D K r' g2) : ∀ σ H Q, tD K b (dChain g1 g2 f1 f2 f3) σ H Q → tChain r r' (tD K b f1) (tD K b f2) (tD K b f3) σ H Q := fun σ H Q ⟨G, env, B, d, B', s, ev, k⟩ => by
  unfold dChain at ev
  cases h1 : f1 env B with
  | none => rw [h1] at ev; cases ev
  | some p =>
    obtain ⟨a, B1⟩ := p
    rw [h1, Option.bind_some] at ev
    dsimp only at ev
    cases h2 : f2 env B1 with
    | none => rw [h2] at ev; cases ev
    | some q =>
      obtain ⟨a2, B2⟩ := q
      rw [h2, Option.bind_some] at ev
      dsimp only at ev
      cases h3 : g1 a a2 with
      | none => rw [h3] at ev; cases ev
      | some t =>
        rw [h3, Option.bind_some] at ev
        refine ⟨G, env, B, a, B1, s, h1, fun v G1 H1 fr1 ex1 bg1 is1 => ?_⟩
        refine ⟨G1, env, B1, a2, B2, s.step fr1 ex1 bg1, h2, fun w G2 H2 fr2 ex2 bg2 is2 => ?_⟩
        have fr12 := fr1.trans fr2 bg2.1
        refine hr b G2 H2 v w a a2 t B2 _ ex2 bg2 (is1.mono fr2.ex) is2 h3 fun z G3 H3 fr3 ex3 bg3 is3 => ?_
        have fr13 := fr12.trans fr3 bg3.1
        split at ev
        · cases is3
          refine ⟨true, rfl, iteT ?_⟩
          cases h4 : f3 env B2 with
          | none => rw [h4] at ev; cases ev
          | some r =>
            obtain ⟨a3, B3⟩ := r
            rw [h4, Option.bind_some] at ev
            dsimp only at ev
            cases h5 : g2 a2 a3 with
            | none => rw [h5] at ev; cases ev
            | some d5 =>
              rw [h5] at ev
              simp only [Option.map_some, Option.some.injEq, Prod.mk.injEq] at ev
              obtain ⟨rfl, rfl⟩ := ev
              refine ⟨G3, env, B2, a3, B3, s.step fr13 ex3 bg3, h4, fun w3 G4 H4 fr4 ex4 bg4 is4 => ?_⟩
              exact hr' b G4 H4 w w3 a2 a3 d5 B3 Q ex4 bg4 (is2.mono (fr3.ex.trans fr4.ex)) is4 h5 (k.go (fr13.trans fr4 bg4.1))
        · cases is3
          simp only [Option.some.injEq, Prod.mk.injEq] at ev
          obtain ⟨rfl, rfl⟩ := ev
          exact ⟨false, rfl, iteF ((k.go fr13).val ex3 bg3 (.bl _))⟩
        · cases ev
theorem pd_chain {op op' : CmpOp} {r r' : R2} {g1 g2 : PyData → PyData → Option PyData} (ho : OpR X (compareOp op) r) (ho' : OpR X (compareOp op') r') (hr : R2D X.K r g1) (hr' : R2D X.K r' g2) (h1 : PD X b e1 f1) (h2 : PD X b e2 f2) (h3 : PD X b e3 f3) (hm : lastMarks [op, op'] [e2, e3] = false := by rfl) :
    PD X b (.Compare e1 [op, op'] [e2, e3] pos) (dChain g1 g2 f1 f2 f3) := PE.imp (pe_chain ho ho' h1 h2 h3 hm) (tD_chain hr hr')
theorem tDT_test {K : PySem.W.Frag} {t : TE} (h : ∀ σ H Q, tD K b f σ H Q → t σ H Q) : ∀ σ H Q, tDT K b f σ H Q → tTest t σ H Q := fun σ H Q ⟨G, env, B, c, B', s, ev, k⟩ =>
  h σ H _ ⟨G, env, B, .bool c, B', s, ev, fun v G1 H1 fr ex bg is => by
    cases is
    exact ⟨c, rfl, k G1 H1 fr ex bg⟩⟩
theorem pdt_cmp {op : CmpOp} {r : R2} {g : PyData → PyData → Option PyData} (ho : OpR X (compareOp op) r) (hr : R2D X.K r g) (h1 : PD X b e1 f1) (h2 : PD X b e2 f2) (hm : behindInMarks op e2 = false := by first | exact nomark _ | rfl) : PDT X b (.Compare e1 [op] [e2] pos) (dBin g f1 f2) :=
  PT.imp (pt_cmpR ho h1 h2 hm) (tDT_test (tD_op hr))
theorem pdt_chain {op op' : CmpOp} {r r' : R2} {g1 g2 : PyData → PyData → Option PyData} (ho : OpR X (compareOp op) r) (ho' : OpR X (compareOp op') r') (hr : R2D X.K r g1) (hr' : R2D X.K r' g2) (h1 : PD X b e1 f1) (h2 : PD X b e2 f2) (h3 : PD X b e3 f3) (hm : lastMarks [op, op'] [e2, e3] = false := by rfl) :
    PDT X b (.Compare e1 [op, op'] [e2, e3] pos) (dChain g1 g2 f1 f2 f3) := PT.imp (pt_chain ho ho' h1 h2 h3 hm) (tDT_test (tD_chain hr hr'))
theorem pds_for {iter : Expr} {body : List Stmt} {fi : DI} {g : DG} {gb : DS} (hp : PassesOwn (model X.prog X.w) X.A X.env X.xe) (hc : X.calm = true) (hi : PDI X b tg iter fi) (hg : PDGS X b tg g) (hb : PDSs X b body gb) (hs : ∀ x, foldedSetIterable iter X.env x = pure x := by intro _; rfl) :
    PDS X b (.For tg iter body [] pos) (dFor fi g gb) := PS.imp (ps_for hp hc hi hg hb hs) tDS_for
/-- a, b = e, f of two local names, stored without a pair -/
def dPar (i j : Nat) (f1 f2 : DE) : DS := fun env B => (f1 env B).bind fun p => (f2 env p.2).bind fun q => some (.nx ((env.set i (.sh p.1)).set j (.sh q.1)) q.2)
theorem pds_par (i j : Nat) {x y : Str} {px py pt : Pos} {kt k2 pt2} (h : PA X [e1, e2] (tCons (tD X.K b f1) (tCons (tD X.K b f2) tNil)) → PS X (.Assign [.Tuple [.Name x px, .Name y py] kt pt] (.Tuple [e1, e2] k2 pt2) pos) (tPar i j (tCons (tD X.K b f1) (tCons (tD X.K b f2) tNil))))
    (h1 : PD X b e1 f1) (h2 : PD X b e2 f2) (hs : starEach [e1, e2] X.env = (false, eval e1 X.env) :: starEach [e2] X.env := by rfl) (hs2 : starEach [e2] X.env = (false, eval e2 X.env) :: starEach [] X.env := by rfl) :
    PDS X b (.Assign [.Tuple [.Name x px, .Name y py] kt pt] (.Tuple [e1, e2] k2 pt2) pos) (dPar i j f1 f2) := PS.imp (h (pa_cons h1 (pa_cons h2 pa_nil hs2) hs)) fun D σ H ⟨G0, H0, Gm, G, env, B, o, s, ev, k⟩ => by
  unfold dPar at ev
  cases e1 : f1 env B with
  | none => rw [e1] at ev; cases ev
  | some p =>
    obtain ⟨a, B1⟩ := p
    rw [e1, Option.bind_some] at ev
    dsimp only at ev
    cases e2 : f2 env B1 with
    | none => rw [e2] at ev; cases ev
    | some q =>
      obtain ⟨a2, B2⟩ := q
      rw [e2, Option.bind_some] at ev
      cases ev
      refine ⟨G, env, B, a, B1, s.toSt, e1, fun v G1 H1 fr1 ex1 bg1 is1 => ?_⟩
      refine ⟨G1, env, B1, a2, B2, s.toSt.step fr1 ex1 bg1, e2, fun w G2 H2 fr2 ex2 bg2 is2 => ?_⟩
      exact ⟨v, w, rfl, k G2 _ H2 (((s.step (fr1.trans fr2 bg2.1) ex2 bg2).put (is1.mono fr2.ex)).put is2)⟩
end
end Dl

/-! DF: the built-ins' names; what the heads of proofs ask. -/
namespace Dl
open PySem L2 Evl
/-- the text's top gives these names no other meaning -/
structure Bn (mg : Str → Option Value) : Prop where
  len : mg "len" = none
  abs : mg "abs" = none
  range : mg "range" = none
  int : mg "int" = none
  max : mg "max" = none
  min : mg "min" = none
  sorted : mg "sorted" = none
  dict : mg "dict" = none
  list : mg "list" = none
  tuple : mg "tuple" = none
  zip : mg "zip" = none
  enumerate : mg "enumerate" = none
  repr : mg "repr" = none
  set : mg "set" = none
  isinstance : mg "isinstance" = none
  str : mg "str" = none
  bool : mg "bool" = none
  sum : mg "sum" = none
  all : mg "all" = none
  any : mg "any" = none
section
variable {X : Cx} {b : Addr} {e : Expr} {es : List Expr} {as : List DAr} {p pos : Pos}
theorem pd_len (hm : X.mg "len" = none) (hg : Gl X "len") (ha : PDA X b [e] as) (he : starEach [e] X.env = (false, eval e X.env) :: starEach [] X.env := by rfl) : PD X b (.Call (.Name "len" p) [e] [] pos) (dCB gLen as) := pd_cb call_len r_len hg hm PySem.boot_len ha (by decide) (by decide) he (by rfl)
theorem pd_abs (hm : X.mg "abs" = none) (hg : Gl X "abs") (ha : PDA X b [e] as) (he : starEach [e] X.env = (false, eval e X.env) :: starEach [] X.env := by rfl) : PD X b (.Call (.Name "abs" p) [e] [] pos) (dCB gAbs as) := pd_cb call_abs r_abs hg hm (by decide +kernel) ha (by decide) (by decide) he (by rfl)
theorem pd_int' (hm : X.mg "int" = none) (hg : Gl X "int") (ha : PDA X b [e] as) (he : starEach [e] X.env = (false, eval e X.env) :: starEach [] X.env := by rfl) : PD X b (.Call (.Name "int" p) [e] [] pos) (dCB gInt as) := pd_ct call_int1 r_int hg hm (by decide +kernel) ha (by decide) (by decide) he (by rfl)
theorem pd_max {e2 : Expr} (hc : X.calm = true) (hm : X.mg "max" = none) (hg : Gl X "max") (ha : PDA X b [e, e2] as) (he : starEach [e, e2] X.env = (false, eval e X.env) :: starEach [e2] X.env := by rfl) (hpl : (backTo pos (starEach [e2] X.env)).any (·.1) = false := by rfl) : PD X b (.Call (.Name "max" p) [e, e2] [] pos) (dCB gMax as) := pd_cb (call_max2 hc) r_max hg hm (by decide +kernel) ha (by decide) (by decide) he hpl
theorem pd_min {e2 : Expr} (hc : X.calm = true) (hm : X.mg "min" = none) (hg : Gl X "min") (ha : PDA X b [e, e2] as) (he : starEach [e, e2] X.env = (false, eval e X.env) :: starEach [e2] X.env := by rfl) (hpl : (backTo pos (starEach [e2] X.env)).any (·.1) = false := by rfl) : PD X b (.Call (.Name "min" p) [e, e2] [] pos) (dCB gMin as) := pd_cb (call_min2 hc) r_min hg hm (by decide +kernel) ha (by decide) (by decide) he hpl
theorem pd_listOf (hm : X.mg "list" = none) (hg : Gl X "list") (ha : PDA X b [e] as) (he : starEach [e] X.env = (false, eval e X.env) :: starEach [] X.env := by rfl) : PD X b (.Call (.Name "list" p) [e] [] pos) (dCB gListOf as) := pd_ct call_list_of r_listOf hg hm (by decide +kernel) ha (by decide) (by decide) he (by rfl)
theorem pd_tupleOf (hm : X.mg "tuple" = none) (hg : Gl X "tuple") (ha : PDA X b [e] as) (he : starEach [e] X.env = (false, eval e X.env) :: starEach [] X.env := by rfl) : PD X b (.Call (.Name "tuple" p) [e] [] pos) (dCB gTupleOf as) := pd_ct call_tupOf r_tupleOf hg hm (by decide +kernel) ha (by decide) (by decide) he (by rfl)
end
end Dl

/-! DG: the bag, read and written at its places. -/
namespace Dl
open PySem L2 Evl PyProof.Rows
section
variable {X : Cx} {b : Addr} {pos : Pos} {e e1 e2 : Expr} {f f1 f2 : DE}
def bgGet (B : Bg) : Int → Option PyData
  | 0 => some (.int B.z0)
  | 1 => some (.int B.z1)
  | 2 => some (.int B.z2)
  | 3 => some (.list (B.cs.map PyData.int))
  | _ => none
def bgPut (B : Bg) (z : Int) : Int → Option Bg
  | 0 => some { B with z0 := z }
  | 1 => some { B with z1 := z }
  | 2 => some { B with z2 := z }
  | _ => none
def dBg (i : Nat) (k : Int) : DE := fun env B => match env[i]? with
  | some .bag => (bgGet B k).map fun d => (d, B)
  | _ => none
theorem bg_at {G H : Hp} {B : Bg} {k : Int} {d : PyData} {K : PySem.W.Frag} (g : BagAt b G H B) (h : bgGet B k = some d) : ∃ c v, H b = some (.lst (bgV B c)) ∧ G c = some (.lst (B.cs.map V.int)) ∧ atI (bgV B c) k = some v ∧ Is K G v d := by
  obtain ⟨_, c, h1, h2⟩ := g
  unfold bgGet at h
  split at h
  · cases h
    exact ⟨c, _, h1, h2, rfl, .int _⟩
  · cases h
    exact ⟨c, _, h1, h2, rfl, .int _⟩
  · cases h
    exact ⟨c, _, h1, h2, rfl, .int _⟩
  · cases h
    exact ⟨c, _, h1, h2, rfl, .lst h2 (IsL.ints _)⟩
  · cases h
theorem pd_bg (i : Nat) (k : Int) {x : Str} {px pc : Pos} {j} (hx : PE X (.Name x px) (tVar i)) : PD X b (.Subscript (.Name x px) (.Constant (.int k) j pc) pos) (dBg i k) := PE.imp (pe_ix ix_D hx pe_int (fun _ _ => rfl)) fun σ H Q ⟨G, env, B, d, B', s, ev, kk⟩ => by
  unfold dBg at ev
  split at ev
  · rename_i he
    cases h : bgGet B k with
    | none => rw [h] at ev; cases ev
    | some d1 =>
      rw [h] at ev
      simp only [Option.map_some, Option.some.injEq, Prod.mk.injEq] at ev
      obtain ⟨rfl, rfl⟩ := ev
      obtain ⟨c, v, h1, h2, h3, h4⟩ := bg_at (K := X.K) s.bag h
      exact ⟨.ref b, s.sl i _ he, .inl ⟨b, _, k, v, rfl, rfl, sq_of h1, h3, kk.val s.ex s.bag h4⟩⟩
  · cases ev
theorem SS.bagged {K : PySem.W.Frag} {G0 H0 Gm G H : Hp} {σ : L2.St} {env : Env} {B B' : Bg} {c : Addr} (x : SS K b G0 H0 Gm G σ H env B) (hH : H b = some (.lst (bgV B c))) (hc : G c = some (.lst (B'.cs.map V.int))) : SS K b G0 H0 Gm G σ (upd H b (.lst (bgV B' c))) env B' where
  ex := fun a o q => by
    rw [upd_ne (ne_of_none q x.bag.1)]
    exact x.ex a o q
  bag := ⟨x.bag.1, c, upd_same, hc⟩
  len := x.len
  sl := fun j s e => by
    have z := x.sl j s e
    cases s with
    | no => trivial
    | sh d => exact z
    | own fs =>
      obtain ⟨r, zs, h1, h2, h3, h4, h5⟩ := z
      exact ⟨r, zs, h1, h2, h3, by rw [upd_ne h3]; exact h4, h5⟩
    | bag => exact z
  dis := x.dis
  frm := ⟨x.frm.ex, fun a o q n => by
    rw [upd_ne n]
    exact x.frm.keep a o q n, x.frm.hide, fun c1 h => by
      obtain ⟨z1, z2, z3, h1⟩ := x.frm.cell c1 h
      rw [hH] at h1
      cases h1
      exact ⟨_, _, _, upd_same⟩⟩
  mrk := x.mrk
  fresh := x.fresh
def dBgSet (i : Nat) (k : Int) (f : DE) : DS := fun env B => (f env B).bind fun p => match env[i]?, p.1 with
  | some .bag, .int z => (bgPut p.2 z k).map fun B' => .nx env B'
  | _, _ => none
theorem bg_put {B B' : Bg} {z k : Int} (h : bgPut B z k = some B') (c : Addr) : ∃ j, ixN (bgV B c).length k = some j ∧ (bgV B c).set j (.int z) = bgV B' c ∧ B'.cs = B.cs := by
  unfold bgPut at h
  split at h
  · cases h
    exact ⟨0, rfl, rfl, rfl⟩
  · cases h
    exact ⟨1, rfl, rfl, rfl⟩
  · cases h
    exact ⟨2, rfl, rfl, rfl⟩
  · cases h
theorem pds_bgset (i : Nat) (k : Int) {x : Str} {px pc ps : Pos} {j} (h : PE X e (tD X.K b f) → PS X (.Assign [.Subscript (.Name x px) (.Constant (.int k) j pc) ps] e pos) (tAsg (tD X.K b f) (L2.gSub (tVar i) (tC (.int k)) rSetL))) (h1 : PD X b e f) :
    PDS X b (.Assign [.Subscript (.Name x px) (.Constant (.int k) j pc) ps] e pos) (dBgSet i k f) := PS.imp (h h1) fun D σ H ⟨G0, H0, Gm, G, env, B, o, s, ev, kk⟩ => by
  unfold dBgSet at ev
  cases h1 : f env B with
  | none => rw [h1] at ev; cases ev
  | some p =>
    obtain ⟨d, B1⟩ := p
    rw [h1, Option.bind_some] at ev
    dsimp only at ev
    split at ev
    · rename_i z he
      cases h2 : bgPut B1 z k with
      | none => rw [h2] at ev; cases ev
      | some B2 =>
        rw [h2] at ev
        cases ev
        refine ⟨G, env, B, _, B1, s.toSt, h1, fun v G1 H1 fr ex bg is => ?_⟩
        cases is
        have s1 := s.step fr ex bg
        obtain ⟨g1, c, g2, g3⟩ := bg
        obtain ⟨j, q1, q2, q3⟩ := bg_put h2 c
        refine ⟨.ref b, s.sl i _ he, b, _, k, j, rfl, rfl, g2, q1, ?_⟩
        rw [q2]
        exact kk G1 σ _ (s1.bagged g2 (by rw [q3]; exact g3))
    · cases ev
/-- xs[k], k not below 0, as a += reads it -/
def rGetL (K : PySem.W.Frag) : V → V → Hp → VK → Prop := fun o i H Q => ∃ (p : Addr) (xs : List V) (k : Nat) (v : V), o = .ref p ∧ i = .int (k : Int) ∧ k < 1000 ∧ SqL K H p xs ∧ xs[k]? = some v ∧ Q v H
theorem get_list : PGet X (rGetL X.K) := by
  intro pins s σ H o i ov iv Q I ro ri h
  obtain ⟨p, xs, k, v, rfl, rfl, hk, hq, he, q⟩ := h
  cases ro
  obtain ⟨t, rfl⟩ := ri
  obtain ⟨its, r, pl, hz⟩ := I.list hq
  obtain ⟨u, hu, ru⟩ := r.get he
  exact wpAny_getItem_list pl.isList (by omega) (by omega) (by simpa using hu) ⟨v, H, I, ru, q⟩
def dBgAug (i : Nat) (k : Nat) (n : Int) : DS := fun env B => match env[i]?, bgGet B k with
  | some .bag, some (.int z) => (bgPut B (z + n) k).map fun B' => .nx env B'
  | _, _ => none
theorem pds_bgaug (i : Nat) (k : Nat) (n : Int) (hk : k < 4) {x : Str} {px pc ps pn : Pos} {j jn}
    (h : PS X (.AugAssign (.Subscript (.Name x px) (.Constant (.int (k : Int)) j pc) ps) .Add (.Constant (.int n) jn pn) pos) (tAugS (tVar i) (tC (.int (k : Int))) (tC (.int n)) (rGetL X.K) (ipI fun i j => i + j) rSetL)) :
    PDS X b (.AugAssign (.Subscript (.Name x px) (.Constant (.int (k : Int)) j pc) ps) .Add (.Constant (.int n) jn pn) pos) (dBgAug i k n) := PS.imp h fun D σ H ⟨G0, H0, Gm, G, env, B, o, s, ev, kk⟩ => by
  unfold dBgAug at ev
  split at ev
  · rename_i z he hg
    cases h2 : bgPut B (z + n) k with
    | none => rw [h2] at ev; cases ev
    | some B2 =>
      rw [h2] at ev
      cases ev
      obtain ⟨c, v, h1, h2', h3, h4⟩ := bg_at (K := X.K) s.bag hg
      cases h4
      obtain ⟨j, q1, q2, q3⟩ := bg_put h2 c
      have hz : (bgV B c)[k]? = some (.int z) := by
        unfold atI at h3
        rw [q1, Option.bind_some] at h3
        have hj : j = k := by
          unfold ixN at q1
          rw [if_pos (by omega)] at q1
          split at q1
          · cases q1 <;> try omega
          · cases q1
        rw [hj] at h3
        exact h3
      refine ⟨.ref b, s.sl i _ he, b, _, k, .int z, rfl, rfl, by omega, sq_of h1, hz, ?_⟩
      refine ⟨z, n, rfl, rfl, b, _, k, j, rfl, rfl, h1, q1, ?_⟩
      rw [q2]
      exact kk G σ _ (s.bagged h1 (by rw [q3]; exact h2'))
  · cases ev
end
end Dl

/-! DH: repr of data, sorted of lists of data. -/
namespace Dl
open PySem L2 Evl PyProof.Rows
section
variable {X : Cx} {b : Addr} {pos p : Pos} {e : Expr} {f : DE} {as : List DAr}
/-! ### repr -/
def reprOk (d : PyData) : Bool := d.showable && !d.hasDict && d.canLay0 && decide (d.depth ≤ 60) && decide (d.shown.length ≤ sizeLine)
def isSeq : PyData → Bool
  | .list _ => true
  | .tuple _ => true
  | _ => false
def gRepr : List PyData → Option PyData
  | [d] => if isSeq d && reprOk d then some (.str d.shown) else none
  | _ => none
def rReprD (K : PySem.W.Frag) : List V → Hp → VK → Prop := fun xs H Q => ∃ a d, xs = [.ref a] ∧ Dp K H (.ref a) d ∧ reprOk d = true ∧ Q (.str d.shown) H
theorem call_repr (gs : X.A.guards = some []) {k : Nat} (room : Room k X.A) : CallR X (.builtin "repr") (rReprD X.K) := by
  intro pins s σ H xs us Q I r h
  obtain ⟨a, d, rfl, hd, ok, q⟩ := h
  unfold reprOk at ok
  simp only [Bool.and_eq_true, Bool.not_eq_true', decide_eq_true_eq] at ok
  obtain ⟨⟨⟨⟨o1, o2⟩, o3⟩, o4⟩, o5⟩ := ok
  rw [Vals.ref1 r]
  obtain ⟨ad, rd⟩ := Dp.reads I d (.ref a) (.ref a) hd rfl
  have un := room.un
  refine repr_of_reads' rd o1 (fun z => by rw [o2] at z; cases z) gs (by omega) (fun _ _ z => z) (fun h' u tk keep => ?_) o5
  exact ⟨.str d.shown, H, I.kept (t' := tk) keep, ⟨_, rfl⟩, q⟩
theorem r_repr {K : PySem.W.Frag} : RLD K (rReprD K) gRepr := fun b G H xs as d B Q ex bg is eg k => by
  unfold gRepr at eg
  split at eg
  · rename_i d1
    split at eg
    · rename_i hh
      rw [Bool.and_eq_true] at hh
      cases eg
      cases is with
      | cons hd r =>
        cases r
        have lay : d1.canLay0 = true := by
          have z := hh.2
          unfold reprOk at z
          simp only [Bool.and_eq_true] at z
          exact z.1.1.2
        have dp := hd.dp ex lay
        cases hd with
        | lst ha hl => exact ⟨_, _, rfl, dp, hh.2, k.val ex bg (.str _)⟩
        | tup ha hl => exact ⟨_, _, rfl, dp, hh.2, k.val ex bg (.str _)⟩
        | _ => cases hh.1
    · cases eg
  · cases eg
theorem pd_repr (gs : X.A.guards = some []) {k : Nat} (room : Room k X.A) (hm : X.mg "repr" = none) (hg : Gl X "repr") (ha : PDA X b [e] as) (he : starEach [e] X.env = (false, eval e X.env) :: starEach [] X.env := by rfl) : PD X b (.Call (.Name "repr" p) [e] [] pos) (dCB gRepr as) :=
  pd_cb (call_repr gs room) r_repr hg hm (by decide +kernel) ha (by decide) (by decide) he (by rfl)

/-! ### sorted -/
def leD (x y : PyData) : Bool := PySem.W.dataLe false (fun d : PyData => d) x y
def tupled : PyData → Bool
  | .tuple (_ :: _) => true
  | _ => false
def plainD : PyData → Bool
  | .none => false
  | .tuple _ => false
  | _ => true
def sortOk (ds : List PyData) : Bool := (ds.all fun d => ds.all fun d' => PySem.W.alike d d') && (ds.all tupled || ds.all plainD) && ds.all fun d => d.canLay0 && decide (d.depth ≤ 60)
def gSorted : List PyData → Option PyData
  | [.list ds] => if ds.length ≤ 100000 && sortOk ds then some (.list (ds.mergeSort leD)) else none
  | _ => none
def rSortD (K : PySem.W.Frag) : List V → Hp → VK → Prop := fun xs H Q => ∃ (a : Addr) (qs : List (V × PyData)), xs = [.ref a] ∧ H a = some (.lst (qs.map (·.1))) ∧ (∀ q ∈ qs, Dp K H q.1 q.2) ∧ sortOk (qs.map (·.2)) = true ∧ qs.length ≤ 100000 ∧
  ∀ p, H p = none → Q (.ref p) (upd H p (.lst ((qs.mergeSort (PySem.W.dataLe false fun q : V × PyData => q.2)).map (·.1))))
theorem each_vals : ∀ {qs : List (V × PyData)} {us : List Value}, Vals (qs.map (·.1)) us → PySem.W.EachIs (fun (u : Value) (q : V × PyData) => RelV q.1 u) us qs
  | [], _, .nil => .nil
  | _ :: _, _, .cons r t => .cons r (each_vals t)
theorem vals_each : ∀ {qs : List (V × PyData)} {us : List Value}, PySem.W.EachIs (fun (u : Value) (q : V × PyData) => RelV q.1 u) us qs → Vals (qs.map (·.1)) us
  | _, _, .nil => .nil
  | _, _, .cons r t => .cons r (vals_each t)
theorem each_reads {pins : List (Addr × Obj)} {σ : L2.St} {H : Hp} {s : Shared} (I : Inv X pins σ H s) : ∀ {qs : List (V × PyData)} {us : List Value}, Vals (qs.map (·.1)) us → (∀ q ∈ qs, Dp X.K H q.1 q.2) → PySem.W.EachIs (fun (u : Value) (q : V × PyData) => ∃ as, Reads s.heap u q.2 as) us qs
  | [], _, .nil, _ => .nil
  | q :: _, _, .cons r t, h => .cons (Dp.reads I q.2 q.1 _ (h q List.mem_cons_self) r) (each_reads I t fun q' hq => h q' (List.mem_cons_of_mem _ hq))
theorem call_sortedD {k : Nat} (room : Room k X.A) : CallR X (.builtin "sorted") (rSortD X.K) := by
  intro pins s σ H xs us Q I r h
  obtain ⟨a, qs, rfl, ha, hd, ok, hz, q⟩ := h
  rw [Vals.ref1 r]
  obtain ⟨its, rv, hl, _⟩ := I.list (sq_of ha)
  unfold sortOk at ok
  simp only [Bool.and_eq_true, Bool.or_eq_true, List.all_eq_true, decide_eq_true_eq] at ok
  obtain ⟨⟨o1, o2⟩, o3⟩ := ok
  have un := room.un
  refine PySem.W.sorted_data (enc := fun q : V × PyData => q.2) hl.isList (each_vals rv) (each_reads I rv hd) (fun d hd' d' hd2 => o1 d hd' d' hd2) ?_ (sz_of hz) (fun q' hq => ?_) fun out hlen each => ?_
  · rcases o2 with z | z
    · refine .inl fun d hd' => ?_
      have z' := z d hd'
      unfold tupled at z'
      split at z'
      · exact ⟨_, _, rfl⟩
      · cases z'
    · refine .inr fun d hd' => ?_
      have z' := z d hd'
      refine ⟨fun e => ?_, fun xs e => ?_⟩
      · rw [e] at z'
        cases z'
      · rw [e] at z'
        cases z'
  · have z := (o3 q'.2 (List.mem_map.mpr ⟨q', hq, rfl⟩)).2
    omega
  · obtain ⟨ep, at'⟩ := PyProof.Rows.sortedAll_at s.heap its out.toArray
    have vals := vals_each each
    have fresh : H (s.heap.objs.size + 1) = none := I.hok.fresh (Nat.le_succ _)
    have small : ((qs.mergeSort (PySem.W.dataLe false fun q : V × PyData => q.2)).map (·.1)).length ≤ sizeLine := by
      rw [List.length_map, List.length_mergeSort]
      exact sz_of hz
    exact ⟨.ref _, upd H (s.heap.objs.size + 1) (.lst ((qs.mergeSort (PySem.W.dataLe false fun q : V × PyData => q.2)).map (·.1))), I.laid (t' := s.toks) (fun _ _ => PyProof.Rows.sortedAll_old) (Nat.le_succ _) ⟨small, out, ep, vals, at'⟩, rfl, q _ fresh⟩
theorem zip_fst : ∀ {vs : List V} {ds : List PyData}, vs.length = ds.length → (vs.zip ds).map (·.1) = vs
  | [], [], _ => rfl
  | v :: vs, d :: ds, h => by
    rw [List.zip_cons_cons, List.map_cons, zip_fst (by simpa using h)]
theorem zip_snd : ∀ {vs : List V} {ds : List PyData}, vs.length = ds.length → (vs.zip ds).map (·.2) = ds
  | [], [], _ => rfl
  | v :: vs, d :: ds, h => by
    rw [List.zip_cons_cons, List.map_cons, zip_snd (by simpa using h)]
theorem IsL.zip {K : PySem.W.Frag} {G : Hp} : ∀ {vs : List V} {ds : List PyData}, IsL K G vs ds → ∀ q ∈ vs.zip ds, Is K G q.1 q.2
  | _, _, .nil, q, h => by simp at h
  | _, _, .cons h r, q, hq => by
    rw [List.zip_cons_cons, List.mem_cons] at hq
    rcases hq with rfl | hq
    · exact h
    · exact IsL.zip r q hq
theorem IsL.of_pairs {K : PySem.W.Frag} {G : Hp} : ∀ {qs : List (V × PyData)}, (∀ q ∈ qs, Is K G q.1 q.2) → IsL K G (qs.map (·.1)) (qs.map (·.2))
  | [], _ => .nil
  | q :: qs, h => .cons (h q List.mem_cons_self) (IsL.of_pairs fun q' hq => h q' (List.mem_cons_of_mem _ hq))
theorem r_sorted {K : PySem.W.Frag} : RLD K (rSortD K) gSorted := fun b G H xs as d B Q ex bg is eg k => by
  unfold gSorted at eg
  split at eg
  · rename_i ds
    split at eg
    · rename_i hh
      rw [Bool.and_eq_true, decide_eq_true_eq] at hh
      cases eg
      cases is with
      | cons hd r =>
        cases r
        cases hd with
        | @lst a vs _ ha hl =>
          have len := hl.len
          have lay : ∀ d ∈ ds, d.canLay0 = true := fun d hd => by
            have z := hh.2
            unfold sortOk at z
            simp only [Bool.and_eq_true, List.all_eq_true] at z
            exact (z.2 d hd).1
          refine ⟨a, vs.zip ds, rfl, by rw [zip_fst len]; exact ex _ _ ha, fun q hq => ?_, by rw [zip_snd len]; exact hh.2, by rw [List.length_zip, len]; omega, fun p hp => ?_⟩
          · have m : q.2 ∈ ds := by
              rw [← zip_snd len]
              exact List.mem_map.mpr ⟨q, hq, rfl⟩
            exact (hl.zip q hq).dp ex (lay _ m)
          · have e : (ds.mergeSort leD) = ((vs.zip ds).mergeSort (PySem.W.dataLe false fun q : V × PyData => q.2)).map (·.2) := by
              rw [List.map_mergeSort (r := PySem.W.dataLe false fun q : V × PyData => q.2) (s := leD) (f := fun q : V × PyData => q.2) (l := vs.zip ds) (fun _ _ _ _ => rfl), zip_snd len]
            rw [e] at k
            refine k.lst ex bg hp (IsL.of_pairs fun q hq => hl.zip q ?_)
            exact (List.mergeSort_perm _ _).mem_iff.mp hq
    · cases eg
  · cases eg
theorem pd_sorted {k : Nat} (room : Room k X.A) (hm : X.mg "sorted" = none) (hg : Gl X "sorted") (ha : PDA X b [e] as) (he : starEach [e] X.env = (false, eval e X.env) :: starEach [] X.env := by rfl) : PD X b (.Call (.Name "sorted" p) [e] [] pos) (dCB gSorted as) :=
  pd_cb (call_sortedD room) r_sorted hg hm (by decide +kernel) ha (by decide) (by decide) he (by rfl)
end
end Dl

/-! DI: dicts with keys of ints and texts. -/
namespace Dl
open PySem L2 Evl PyProof.Rows
/-! ### keys and entries, as data -/
def dKey : PyData → Option Key
  | .int i => some (.inl i)
  | .str s => some (.inr s)
  | _ => none
theorem dKey_is {d : PyData} {k : Key} (h : dKey d = some k) : d = keyD k := by
  unfold dKey at h
  split at h <;> first | (cases h; rfl) | cases h
theorem dKey_of (k : Key) : dKey (keyD k) = some k := by cases k <;> rfl
theorem keyD_inj {k k' : Key} (h : keyD k = keyD k') : k = k' := by
  have e := dKey_of k
  rw [h, dKey_of] at e
  exact (Option.some.inj e).symm
theorem Is.key {K : PySem.W.Frag} {G : Hp} {v : V} {k : Key} (h : Is K G v (keyD k)) : v = kV k := by
  cases k <;> (cases h; rfl)
theorem Is.ofKey {K : PySem.W.Frag} {G : Hp} (k : Key) : Is K G (kV k) (keyD k) := by
  cases k
  · exact .int _
  · exact .str _
def lookD (ds : List (PyData × PyData)) (k : Key) : Option PyData := (ds.find? fun p => decide (dKey p.1 = some k)).map (·.2)
def putD (ds : List (PyData × PyData)) (k : Key) (v : PyData) : List (PyData × PyData) :=
  if (ds.any fun p => decide (dKey p.1 = some k)) = true then ds.map (fun p => if dKey p.1 = some k then (p.1, v) else p) else ds ++ [(keyD k, v)]
def putO (kvs : List (Key × PyData)) (k : Key) (v : PyData) : List (Key × PyData) :=
  if (kvs.any fun p => decide (p.1 = k)) = true then kvs.map (fun p => if p.1 = k then (p.1, v) else p) else kvs ++ [(k, v)]
section
variable {K : PySem.W.Frag} {G : Hp}
theorem IsD.look : ∀ {xs : List (Key × V)} {ds : List (PyData × PyData)} {k : Key}, IsD K G xs ds → (∀ d, lookD ds k = some d → ∃ v, valV xs k = some v ∧ Is K G v d) ∧ (lookD ds k = none → valV xs k = none)
  | _, _, k, .nil => ⟨fun d h => (nomatch h), fun _ => rfl⟩
  | _, _, k, .cons (k := k0) (v := v) (vs := vs) (d := d0) (ds := ds) h r => by
    have ih := IsD.look (k := k) r
    unfold lookD at ih ⊢
    rw [List.find?_cons, dKey_of]
    by_cases e : k0 = k
    · subst e
      rw [decide_eq_true rfl]
      refine ⟨fun d hd => ?_, fun hd => by cases hd⟩
      cases hd
      exact ⟨v, valV_pos rfl, h⟩
    · rw [decide_eq_false (fun z => e (Option.some.inj z)), valV_neg e]
      exact ih
theorem IsD.any : ∀ {xs : List (Key × V)} {ds : List (PyData × PyData)} (k : Key), IsD K G xs ds → (xs.any fun p => decide (p.1 = k)) = (ds.any fun p => decide (dKey p.1 = some k))
  | _, _, k, .nil => rfl
  | _, _, k, .cons (k := k0) h r => by
    rw [List.any_cons, List.any_cons, IsD.any k r, dKey_of]
    by_cases e : k0 = k
    · subst e
      rw [decide_eq_true rfl, decide_eq_true rfl]
    · rw [decide_eq_false e, decide_eq_false (fun z => e (Option.some.inj z))]
theorem IsD.append : ∀ {xs ys : List (Key × V)} {ds es : List (PyData × PyData)}, IsD K G xs ds → IsD K G ys es → IsD K G (xs ++ ys) (ds ++ es)
  | _, _, _, _, .nil, s => s
  | _, _, _, _, .cons h r, s => .cons h (IsD.append r s)
theorem IsD.swap {v : V} {d : PyData} (k : Key) (i : Is K G v d) : ∀ {xs : List (Key × V)} {ds : List (PyData × PyData)}, IsD K G xs ds → IsD K G (xs.map fun p => if p.1 = k then (p.1, v) else p) (ds.map fun p => if dKey p.1 = some k then (p.1, d) else p)
  | _, _, .nil => .nil
  | _, _, .cons (k := k0) h r => by
    rw [List.map_cons, List.map_cons]
    show IsD K G ((if k0 = k then (k0, v) else _) :: _) ((if dKey (keyD k0) = some k then (keyD k0, d) else _) :: _)
    rw [dKey_of]
    by_cases e : k0 = k
    · rw [if_pos e, if_pos (congrArg some e)]
      exact .cons i (IsD.swap k i r)
    · rw [if_neg e, if_neg (fun z => e (Option.some.inj z))]
      exact .cons h (IsD.swap k i r)
theorem IsD.put {xs : List (Key × V)} {ds : List (PyData × PyData)} {k : Key} {v : V} {d : PyData} (h : IsD K G xs ds) (i : Is K G v d) : IsD K G (putK xs k v) (putD ds k d) := by
  unfold putK putD
  rw [h.any k]
  split
  · exact h.swap k i
  · exact h.append (.cons i .nil)
theorem kvD_any (kvs : List (Key × PyData)) (k : Key) : ((kvD kvs).any fun p => decide (dKey p.1 = some k)) = kvs.any fun p => decide (p.1 = k) := by
  unfold kvD
  rw [List.any_map]
  congr 1
  funext p
  show decide (dKey (keyD p.1) = some k) = decide (p.1 = k)
  rw [dKey_of]
  by_cases e : p.1 = k
  · rw [e, decide_eq_true rfl, decide_eq_true rfl]
  · rw [decide_eq_false e, decide_eq_false (fun z => e (Option.some.inj z))]
theorem kvD_put (kvs : List (Key × PyData)) (k : Key) (d : PyData) : putD (kvD kvs) k d = kvD (putO kvs k d) := by
  unfold putD putO
  rw [kvD_any]
  split
  · unfold kvD
    rw [List.map_map, List.map_map]
    apply List.map_congr_left
    intro p _
    show (if dKey (keyD p.1) = some k then (keyD p.1, d) else (keyD p.1, p.2)) = (keyD (if p.1 = k then (p.1, d) else p).1, (if p.1 = k then (p.1, d) else p).2)
    rw [dKey_of]
    by_cases e : p.1 = k
    · rw [if_pos e, if_pos (congrArg some e)]
    · rw [if_neg e, if_neg (fun z => e (Option.some.inj z))]
  · unfold kvD
    rw [List.map_append]
    rfl
theorem keys_put {xs : List (Key × V)} {kvs : List (Key × PyData)} {k : Key} {v : V} {d : PyData} (h : xs.map (·.1) = kvs.map (·.1)) : (putK xs k v).map (·.1) = (putO kvs k d).map (·.1) := by
  have e : (xs.any fun p => decide (p.1 = k)) = (kvs.any fun p => decide (p.1 = k)) := by
    have a1 : (xs.any fun p => decide (p.1 = k)) = (xs.map (·.1)).any fun z => decide (z = k) := by rw [List.any_map]; rfl
    have a2 : (kvs.any fun p => decide (p.1 = k)) = (kvs.map (·.1)).any fun z => decide (z = k) := by rw [List.any_map]; rfl
    rw [a1, a2, h]
  unfold putK putO
  rw [e]
  split
  · rw [List.map_map, List.map_map]
    have f1 : ((fun p : Key × V => p.1) ∘ fun kv => if kv.1 = k then (kv.1, v) else kv) = fun p => p.1 := by
      funext p
      show (if p.1 = k then (p.1, v) else p).1 = p.1
      split <;> rfl
    have f2 : ((fun p : Key × PyData => p.1) ∘ fun p => if p.1 = k then (p.1, d) else p) = fun p => p.1 := by
      funext p
      show (if p.1 = k then (p.1, d) else p).1 = p.1
      split <;> rfl
    rw [f1, f2]
    exact h
  · rw [List.map_append, List.map_append, h]
    rfl
theorem putO_len (kvs : List (Key × PyData)) (k : Key) (d : PyData) : (putO kvs k d).length ≤ kvs.length + 1 := by
  unfold putO
  split
  · rw [List.length_map]
    omega
  · rw [List.length_append]
    exact Nat.le_refl _
end
/-! ### reading a dict -/
section
variable {X : Cx} {b : Addr} {pos p : Pos} {e e1 e2 e3 : Expr} {f f1 f2 f3 : DE} {as : List DAr}
def gDGet : PyData → PyData → Option PyData
  | .dict ds, k => (dKey k).bind fun k => lookD ds k
  | _, _ => none
def gDIn : PyData → PyData → Option PyData
  | k, .dict ds => (dKey k).map fun k => .bool (lookD ds k).isSome
  | _, _ => none
def gDNotIn : PyData → PyData → Option PyData
  | k, .dict ds => (dKey k).map fun k => .bool (!(lookD ds k).isSome)
  | _, _ => none
theorem dget_of {K : PySem.W.Frag} {G H : Hp} {a : Addr} {xs : List (Key × V)} {ds : List (PyData × PyData)} (ex : Ex G H) (ha : G a = some (.dK xs)) (k : Key) : DGet H a (kV k) (valV xs k) := DGet.k (ex _ _ ha)
theorem look_some {K : PySem.W.Frag} {G : Hp} {xs : List (Key × V)} {ds : List (PyData × PyData)} (k : Key) (h : IsD K G xs ds) : (valV xs k).isSome = (lookD ds k).isSome := by
  obtain ⟨h1, h2⟩ := IsD.look (k := k) h
  cases q : lookD ds k with
  | none =>
    rw [h2 q]
    rfl
  | some d =>
    obtain ⟨v, e, _⟩ := h1 d q
    rw [e]
    rfl
theorem pd_dget (hu : X.A.units + 1 < cLine) (h1 : PD X b e1 f1) (h2 : PD X b e2 f2) (hs : NoSl e2 := by exact fun _ _ => rfl) : PD X b (.Subscript e1 e2 pos) (dBin gDGet f1 f2) := PE.imp (pe_dget hu h1 h2 hs) fun σ H Q ⟨G, env, B, d, B', s, ev, k⟩ => by
  obtain ⟨a, B1, c, q1, q2, q3⟩ := dBin_some ev
  refine ⟨G, env, B, a, B1, s, q1, fun v G1 H1 fr1 ex1 bg1 is1 => ⟨G1, env, B1, c, B', s.step fr1 ex1 bg1, q2, fun w G2 H2 fr2 ex2 bg2 is2 => ?_⟩⟩
  cases a with
  | dict ds =>
    have q4 : ((dKey c).bind fun k => lookD ds k) = some d := q3
    clear q3
    cases hk : dKey c with
    | none => rw [hk] at q4; cases q4
    | some key =>
      rw [hk, Option.bind_some] at q4
      have e := dKey_is hk
      subst e
      cases is1 with
      | dct ha hd =>
        have hd2 := hd.mono fr2.ex
        obtain ⟨u, hu', is3⟩ := (IsD.look (k := key) hd2).1 d q4
        rw [is2.key]
        refine ⟨_, u, rfl, ?_, (k.go (fr1.trans fr2 bg2.1)).val ex2 bg2 is3⟩
        rw [← hu']
        exact DGet.k (ex2 _ _ (fr2.ex _ _ ha))
  | _ => cases q3
theorem tD_in {K : PySem.W.Frag} {neg : Bool} {σ : L2.St} {H : Hp} {Q : VK} (h : tD K b (dBin (if neg = true then gDNotIn else gDIn) f1 f2) σ H Q) : tD K b f1 σ H fun y H1 => tD K b f2 σ H1 fun x H2 => ∃ a o, x = .ref a ∧ DGet H2 a y o ∧ Q (.bl (if neg = true then !o.isSome else o.isSome)) H2 := by
  obtain ⟨G, env, B, d, B', s, ev, k⟩ := h
  obtain ⟨a, B1, c, q1, q2, q3⟩ := dBin_some ev
  refine ⟨G, env, B, a, B1, s, q1, fun v G1 H1 fr1 ex1 bg1 is1 => ⟨G1, env, B1, c, B', s.step fr1 ex1 bg1, q2, fun w G2 H2 fr2 ex2 bg2 is2 => ?_⟩⟩
  have kk := k.go (fr1.trans fr2 bg2.1)
  have main : ∀ (ds : List (PyData × PyData)) (key : Key), c = .dict ds → a = keyD key → (.bool (if neg = true then !(lookD ds key).isSome else (lookD ds key).isSome)) = d → ∃ a o, w = .ref a ∧ DGet H2 a v o ∧ Q (.bl (if neg = true then !o.isSome else o.isSome)) H2 := fun ds key e1 e2 e3 => by
    subst e1 e2 e3
    cases is2 with
    | dct ha hd =>
      rw [is1.key]
      refine ⟨_, _, rfl, DGet.k (ex2 _ _ ha), ?_⟩
      rw [look_some key hd]
      exact kk.val ex2 bg2 (.bl _)
  cases neg with
  | true =>
    unfold gDNotIn at q3
    rw [if_pos rfl] at q3
    split at q3
    · rename_i ds
      cases hk : dKey a with
      | none => rw [hk] at q3; cases q3
      | some key =>
        rw [hk] at q3
        cases q3
        exact main ds key rfl (dKey_is hk) (by rw [if_pos rfl])
    · cases q3
  | false =>
    unfold gDIn at q3
    rw [if_neg Bool.false_ne_true] at q3
    split at q3
    · rename_i ds
      cases hk : dKey a with
      | none => rw [hk] at q3; cases q3
      | some key =>
        rw [hk] at q3
        cases q3
        exact main ds key rfl (dKey_is hk) (by rw [if_neg Bool.false_ne_true])
    · cases q3
theorem pd_din (hu : X.A.units + 1 < cLine) (h1 : PD X b e1 f1) (h2 : PD X b e2 f2) (hm : behindInMarks .In e2 = false := by first | exact nomark _ | rfl) : PD X b (.Compare e1 [.In] [e2] pos) (dBin gDIn f1 f2) := PE.imp (pe_cmp (pc_din hu h1 h2) hm) fun σ H Q h => by
  have z := tD_in (neg := false) (by rw [if_neg Bool.false_ne_true]; exact h)
  simp only [if_neg Bool.false_ne_true] at z
  exact z
theorem pd_dnotin (hu : X.A.units + 1 < cLine) (h1 : PD X b e1 f1) (h2 : PD X b e2 f2) (hm : behindInMarks .NotIn e2 = false := by first | exact nomark _ | rfl) : PD X b (.Compare e1 [.NotIn] [e2] pos) (dBin gDNotIn f1 f2) := PE.imp (pe_cmp (pc_dnotin hu h1 h2) hm) fun σ H Q h => by
  have z := tD_in (neg := true) (by rw [if_pos rfl]; exact h)
  simp only [if_pos] at z
  exact z
/-- d.get(k, x) -/
def dGet2 (f1 f2 f3 : DE) : DE := fun env B => (f1 env B).bind fun p => (f2 env p.2).bind fun q => (f3 env q.2).bind fun r => match p.1, dKey q.1 with
  | .dict ds, some k => some ((lookD ds k).getD r.1, r.2)
  | _, _ => none
theorem pd_get2 {apos : Pos} (hu : X.A.units + 1 < cLine) (h1 : PD X b e1 f1) (h2 : PD X b e2 f2) (h3 : PD X b e3 f3) (m : M2 X e1 "get" apos e2 e3 pos) : PD X b (.Call (.Attribute e1 "get" apos) [e2, e3] [] pos) (dGet2 f1 f2 f3) := PE.imp (pe_dget2 hu h1 h2 h3 m) fun σ H Q ⟨G, env, B, d, B', s, ev, k⟩ => by
  unfold dGet2 at ev
  cases q1 : f1 env B with
  | none => rw [q1] at ev; cases ev
  | some p =>
    obtain ⟨a, B1⟩ := p
    rw [q1, Option.bind_some] at ev
    dsimp only at ev
    cases q2 : f2 env B1 with
    | none => rw [q2] at ev; cases ev
    | some p =>
      obtain ⟨c, B2⟩ := p
      rw [q2, Option.bind_some] at ev
      dsimp only at ev
      cases q3 : f3 env B2 with
      | none => rw [q3] at ev; cases ev
      | some p =>
        obtain ⟨g, B3⟩ := p
        rw [q3, Option.bind_some] at ev
        dsimp only at ev
        split at ev
        · rename_i ds key hk
          simp only [Option.some.injEq, Prod.mk.injEq] at ev
          obtain ⟨rfl, rfl⟩ := ev
          have e := dKey_is hk
          subst e
          refine ⟨G, env, B, _, B1, s, q1, fun v G1 H1 fr1 ex1 bg1 is1 => ?_⟩
          cases is1 with
          | @dct ad xs _ ha hd =>
            refine ⟨ad, rfl, .inl ⟨xs, .inl (ex1 _ _ ha)⟩, G1, env, B1, _, B2, s.step fr1 ex1 bg1, q2, fun w G2 H2 fr2 ex2 bg2 is2 => ?_⟩
            have fr12 := fr1.trans fr2 bg2.1
            refine ⟨G2, env, B2, _, B3, s.step fr12 ex2 bg2, q3, fun u G3 H3 fr3 ex3 bg3 is3 => ?_⟩
            have fr23 : Ex G1 G3 := fr2.ex.trans fr3.ex
            rw [is2.key]
            refine ⟨_, DGet.k (ex3 _ _ (fr23 _ _ ha)), ?_⟩
            obtain ⟨l1, l2⟩ := IsD.look (k := key) (hd.mono fr23)
            have kk := k.go (fr12.trans fr3 bg3.1)
            cases q : lookD ds key with
            | none =>
              rw [q] at kk
              rw [l2 q]
              exact kk.val ex3 bg3 is3
            | some d2 =>
              obtain ⟨v2, e2, is4⟩ := l1 d2 q
              rw [q] at kk
              rw [e2]
              exact kk.val ex3 bg3 is4
        · cases ev
/-! ### a dict of one's own -/
def dOwnD (i : Nat) : DS := fun env B => some (.nx (env.set i (.own (.d []))) B)
theorem pds_ownD (i : Nat) {x : Str} {pos' pl : Pos} (h : PS X (.Assign [.Name x pos'] (.Dict [] [] pl) pos) (tAsg tDNewK (gName i))) : PDS X b (.Assign [.Name x pos'] (.Dict [] [] pl) pos) (dOwnD i) := PS.imp h fun D σ H ⟨G0, H0, Gm, G, env, B, o, s, ev, k⟩ => by
  cases ev
  intro p hp
  have hb : p ≠ b := fun e => by
    obtain ⟨o, ho⟩ := s.bag.at
    rw [← e, hp] at ho
    cases ho
  have s2 : SS X.K b G0 H0 Gm G σ (upd H p (.dK [])) env B := ⟨⟨s.ex.trans (Ex.new hp), by
      obtain ⟨g1, c, g2, g3⟩ := s.bag
      exact ⟨g1, c, by rw [upd_ne hb.symm]; exact g2, g3⟩, s.len, fun j t e => by
        have z := s.sl j t e
        cases t with
        | no => trivial
        | sh d => exact z
        | own fs =>
          obtain ⟨r, zs, z1, z2, z3, z4, z5⟩ := z
          exact ⟨r, zs, z1, z2, z3, by rw [upd_ne (ne_of_none z4 hp)]; exact z4, z5⟩
        | bag => exact z, s.dis⟩, ⟨s.frm.ex, fun a o h n => by
          have q := s.frm.keep a o h n
          rw [upd_ne (ne_of_none q hp)]
          exact q, s.frm.hide, fun c h => (s.frm.cell c h).ne hb⟩, s.mrk, s.fresh⟩
  have h0 : H0 p = none := by
    cases q : H0 p with
    | none => rfl
    | some o =>
      have := s.frm.keep p o q hb
      rw [hp] at this
      cases this
  refine k G _ _ (s2.putOwn upd_same (ex_none s.ex hp) h0 hb ⟨_, rfl, rfl, .nil⟩ fun j es' e1 e2 => ?_)
  obtain ⟨r, zs, z1, z2, z3, z4, z5⟩ := s.sl j _ e1
  rw [e2] at z1
  cases z1
  rw [hp] at z4
  cases z4
def dPutO (i : Nat) (fk fv : DE) : DS := fun env B => (fv env B).bind fun p => (fk env p.2).bind fun q => match env[i]?, dKey q.1 with
  | some (.own (.d kvs)), some k => if kvs.length < 100000 then some (.nx (env.set i (.own (.d (putO kvs k p.1)))) q.2) else none
  | _, _ => none
theorem pds_putO (i : Nat) (hu : X.A.units + 1 < cLine) {x : Str} {px ps : Pos} (hx : PE X (.Name x px) (tVar i)) (h1 : PD X b e1 f1) (h2 : PD X b e2 f2) (hs : swapsWith e2 (some (.Subscript (.Name x px) e1 ps)) pos.line X.env = pure false := by rfl) :
    PDS X b (.Assign [.Subscript (.Name x px) e1 ps] e2 pos) (dPutO i f1 f2) := PS.imp (ps_dput hu hx h1 h2 hs) fun D σ H ⟨G0, H0, Gm, G, env, B, o, s, ev, k⟩ => by
  unfold dPutO at ev
  cases q1 : f2 env B with
  | none => rw [q1] at ev; cases ev
  | some p =>
    obtain ⟨d, B1⟩ := p
    rw [q1, Option.bind_some] at ev
    dsimp only at ev
    cases q2 : f1 env B1 with
    | none => rw [q2] at ev; cases ev
    | some p =>
      obtain ⟨c, B2⟩ := p
      rw [q2, Option.bind_some] at ev
      dsimp only at ev
      split at ev
      · rename_i kvs key he hk
        split at ev
        · rename_i hz
          cases ev
          have e := dKey_is hk
          subst e
          obtain ⟨p, o, r1, r2, r3, r4, xs, rfl, r5, r6⟩ := s.sl i _ he
          refine ⟨G, env, B, d, B1, s.toSt, q1, fun v G1 H1 fr1 ex1 bg1 is1 => ⟨.ref p, r1, ?_⟩⟩
          refine ⟨G1, env, B1, _, B2, s.toSt.step fr1 ex1 bg1, q2, fun w G2 H2 fr2 ex2 bg2 is2 => ?_⟩
          have fr12 := fr1.trans fr2 bg2.1
          have hp2 := fr12.keep p _ r4 r3
          have gp2 := fr12.hide p _ r4 r2
          rw [is2.key]
          have len : xs.length = kvs.length := by
            have z := congrArg List.length r5
            rw [List.length_map, List.length_map] at z
            exact z
          refine ⟨p, _, rfl, DPut.k hp2 (sz_lt (by omega)), ?_⟩
          have m : IsD X.K G2 xs (kvD kvs) := r6.mono fr12.ex
          refine k G2 σ _ ((s.step fr12 ex2 bg2).own he r1 gp2 r3 ⟨_, rfl, keys_put r5, ?_⟩)
          rw [← kvD_put]
          exact m.put (is1.mono fr2.ex)
        · cases ev
      · cases ev
/-! ### dict(pairs) -/
def pairsD : List PyData → Option (List (Key × PyData))
  | [] => some []
  | .tuple [k, v] :: ds => (dKey k).bind fun k => (pairsD ds).map fun r => (k, v) :: r
  | _ => none
def mergeO (kvs : List (Key × PyData)) : List (Key × PyData) := kvs.foldl (fun acc p => putO acc p.1 p.2) []
def gDictOf : List PyData → Option PyData
  | [.list ds] => if ds.length ≤ 100000 then (pairsD ds).map fun ps => .dict (kvD (mergeO ps)) else none
  | [.tuple ds] => if ds.length ≤ 100000 then (pairsD ds).map fun ps => .dict (kvD (mergeO ps)) else none
  | _ => none
end
end Dl

/-! DJ: what is made anew and may be changed: lists and dicts of one's own out of expressions; dict of pairs. -/
namespace Dl
open PySem L2 Evl PyProof.Rows
section
variable {X : Cx} {b : Addr} {pos : Pos} {e tg : Expr} {f : DEO}
theorem pd_fz (h : PDN X b e f) : PD X b e (dFzE f) := PE.imp h tD_fz
def dOwnE (i : Nat) (f : DEO) : DS := fun env B => (f env B).map fun p => .nx (env.set i (.own p.1)) p.2
theorem tDS_own {K : PySem.W.Frag} {f : DEO} {i : Nat} : ∀ D σ H, tDS K b (dOwnE i f) D σ H → tAsg (tDN K b f) (gName i) D σ H := fun D σ H ⟨G0, H0, Gm, G, env, B, o, s, ev, k⟩ => by
  unfold dOwnE at ev
  cases h : f env B with
  | none => rw [h] at ev; cases ev
  | some q =>
    rw [h] at ev
    cases ev
    refine ⟨G, env, B, q.1, q.2, s.toSt, h, fun p o G1 H1 fr ex bg hp h1 gp hb oc => ?_⟩
    have s1 := s.step fr ex bg
    refine k G1 _ H1 (s1.putOwn h1 gp (s.frm.back hb hp) hb oc fun j es e1 e2 => ?_)
    obtain ⟨r, zs, z1, z2, z3, z4, z5⟩ := s.sl j _ e1
    rw [e2] at z1
    cases z1
    rw [hp] at z4
    cases z4
theorem pds_ownE (i : Nat) {x : Str} {pos' : Pos} (h : PE X e (tDN X.K b f) → PS X (.Assign [.Name x pos'] e pos) (tAsg (tDN X.K b f) (gName i))) (h1 : PDN X b e f) : PDS X b (.Assign [.Name x pos'] e pos) (dOwnE i f) := PS.imp (h h1) tDS_own
/-! ### built-ins that make a new thing -/
def RLO (K : PySem.W.Frag) (r : List V → Hp → VK → Prop) (g : List PyData → Option OC) : Prop := ∀ b G H xs as c B (Q : VK), Ex G H → BagAt b G H B → IsL K G xs as → g as = some c → PostO K b G H c B Q → r xs H Q
def dCBO (g : List PyData → Option OC) (as : List DAr) : DEO := fun env B => (dArgs as env B).bind fun p => (arD p.1).bind fun ds => (g ds).map fun d => (d, p.2)
theorem tDN_cb {K : PySem.W.Frag} {r : List V → Hp → VK → Prop} {g : List PyData → Option OC} {as : List DAr} (hr : RLO K r g) : ∀ σ H Q, tDN K b (dCBO g as) σ H Q → tCB r (tDA K b (dArgs as)) σ H Q := fun σ H Q ⟨G, env, B, d, B', s, ev, k⟩ => by
  unfold dCBO at ev
  cases h1 : dArgs as env B with
  | none => rw [h1] at ev; cases ev
  | some p =>
    rw [h1, Option.bind_some] at ev
    cases h2 : arD p.1 with
    | none => rw [h2] at ev; cases ev
    | some ds =>
      rw [h2, Option.bind_some] at ev
      cases h3 : g ds with
      | none => rw [h3] at ev; cases ev
      | some d' =>
        rw [h3] at ev
        cases ev
        exact ⟨G, env, B, p.1, p.2, s, h1, fun vs G1 H1 fr1 ex1 bg1 is1 => hr b G1 H1 vs ds _ p.2 Q ex1 bg1 (arD_is is1 h2) h3 (k.go fr1)⟩
theorem pdo_ct {x : Str} {T : String} {r : List V → Hp → VK → Prop} {g : List PyData → Option OC} {es : List Expr} {as : List DAr} {p : Pos} (hc : CallR X (.type T) r) (hr : RLO X.K r g) (hg : Gl X x) (hm : X.mg x = none) (hv : bootBuiltins x = some (.type T)) (ha : PDA X b (e :: es) as)
    (hn : x ≠ "__name__" := by decide) (hd : (x == ("__debug__" : Str)) = false := by decide) (he : starEach (e :: es) X.env = (false, eval e X.env) :: starEach es X.env := by rfl) (hpl : (backTo pos (starEach es X.env)).any (·.1) = false := by rfl) :
    PDN X b (.Call (.Name x p) (e :: es) [] pos) (dCBO g as) := PE.imp (pe_callTy hc hg hm hv ha hn hd he hpl) (tDN_cb hr)
theorem pdo_cb {x : Str} {id : String} {r : List V → Hp → VK → Prop} {g : List PyData → Option OC} {es : List Expr} {as : List DAr} {p : Pos} (hc : CallR X (.builtin id) r) (hr : RLO X.K r g) (hg : Gl X x) (hm : X.mg x = none) (hv : bootBuiltins x = some (.builtin id)) (ha : PDA X b (e :: es) as)
    (hn : x ≠ "__name__" := by decide) (hd : (x == ("__debug__" : Str)) = false := by decide) (he : starEach (e :: es) X.env = (false, eval e X.env) :: starEach es X.env := by rfl) (hpl : (backTo pos (starEach es X.env)).any (·.1) = false := by rfl) :
    PDN X b (.Call (.Name x p) (e :: es) [] pos) (dCBO g as) := PE.imp (pe_callB hc hg hm hv ha hn hd he hpl) (tDN_cb hr)
/-! ### list(..) -/
def oListOf : List PyData → Option OC
  | [.list xs] => some (.l xs)
  | [.tuple xs] => some (.l xs)
  | _ => none
theorem ro_listOf {K : PySem.W.Frag} : RLO K (fun xs H Q => ∃ p ys, xs = [V.ref p] ∧ (SqL K H p ys ∨ SqT K H p ys) ∧ ∀ (l : Addr), H l = none → Q (V.ref l) (upd H l (HO.lst ys))) oListOf := fun b G H xs as d B Q ex bg is eg k => by
  unfold oListOf at eg
  split at eg
  · cases eg
    cases is with
    | cons h r =>
      cases r
      cases h with
      | lst ha hl => exact ⟨_, _, rfl, .inl (sq_of (ex _ _ ha)), fun l hl' => k.new ex bg hl' ⟨_, rfl, hl⟩⟩
  · cases eg
    cases is with
    | cons h r =>
      cases r
      cases h with
      | tup ha hl => exact ⟨_, _, rfl, .inr (ex_t ex ha.sq), fun l hl' => k.new ex bg hl' ⟨_, rfl, hl⟩⟩
  · cases eg
theorem pdo_listOf {as : List DAr} {p : Pos} (hm : X.mg "list" = none) (hg : Gl X "list") (ha : PDA X b [e] as) (he : starEach [e] X.env = (false, eval e X.env) :: starEach [] X.env := by rfl) : PDN X b (.Call (.Name "list" p) [e] [] pos) (dCBO oListOf as) := pdo_ct call_list_of ro_listOf hg hm (by decide +kernel) ha (by decide) (by decide) he (by rfl)
/-! ### list comprehensions -/
def dLcO (fi : DI) (tg : DG) (c f : DE) (vs : List Nat) : DEO := fun env B => (fi env B).bind fun p => if p.1.length ≤ 100000 then (lcGo tg c f (wipeE env vs) p.1 p.2).map fun q => (.l q.1, q.2) else none
theorem tDN_lc {K : PySem.W.Frag} {fi : DI} {tg : DG} {js vs : List Nat} {c f : DE} (hj : ∀ j ∈ js, j ∈ vs) : ∀ σ H Q, tDN K b (dLcO fi tg c f vs) σ H Q → tLc (tDI K b fi) (tDG K b tg js) (tDT K b c) (tD K b f) vs σ H Q := fun σ H Q ⟨G, env, B, d, B', s, ev, k⟩ => by
  unfold dLcO at ev
  cases h1 : fi env B with
  | none => rw [h1] at ev; cases ev
  | some p =>
    obtain ⟨ds, B1⟩ := p
    rw [h1, Option.bind_some] at ev
    dsimp only at ev
    split at ev
    · rename_i hsz
      cases h2 : lcGo tg c f (wipeE env vs) ds B1 with
      | none => rw [h2] at ev; cases ev
      | some q =>
        obtain ⟨es, B2⟩ := q
        rw [h2] at ev
        simp only [Option.map_some, Option.some.injEq, Prod.mk.injEq] at ev
        obtain ⟨rfl, rfl⟩ := ev
        refine ⟨G, env, B, ds, B1, s, h1, fun J G1 H1 fr1 ex1 bg1 it => ?_⟩
        intro D hDn
        have hDb : D ≠ b := fun e => by
          obtain ⟨o, ho⟩ := bg1.at
          rw [← e, hDn] at ho
          cases ho
        have s1 := (s.step fr1 ex1 bg1).wipe vs
        have gD : G1 D = none := ex_none ex1 hDn
        refine ⟨fun i m H => m = ds.length - i ∧ i ≤ ds.length ∧ ∃ G2 B3 acc ads rest, LcInv K b D G1 H1 G2 H B3 acc ads ∧ ads.length ≤ i ∧ lcGo tg c f (wipeE env vs) (ds.drop i) B3 = some (rest, B2) ∧ es = ads ++ rest, ⟨ds.length, rfl, Nat.zero_le _, G1, B1, [], [], es, ?_, Nat.le_refl _, by simpa using h2, rfl⟩, ?_⟩
        · exact ⟨⟨Ex.refl _, fun a o h _ => by rw [upd_ne (ne_of_none h hDn)]; exact h, fun _ _ _ n => n, fun c h => h.new hDn⟩, ex1.trans (Ex.new hDn), gD, by
            obtain ⟨h1, c, h2, h3⟩ := bg1
            exact ⟨h1, c, by rw [upd_ne hDb.symm]; exact h2, h3⟩, upd_same, .nil⟩
        · rintro i m H' ⟨rfl, hi, G2, B3, acc, ads, rest, L, hn, hr, he⟩
          obtain ⟨z1, z2⟩ := it i G2 H' B3 L.frm.ex L.ex L.bag
          by_cases hlt : i < ds.length
          · have hd : ds[i]? = some ds[i] := List.getElem?_eq_getElem hlt
            obtain ⟨go, yl⟩ := z2 _ hd
            rw [List.drop_eq_getElem_cons hlt] at hr
            obtain ⟨e1, t, B4, hg, hc, ht⟩ := lcGo_cons hr
            refine .inr ⟨go, fun H => ∃ G2 B3 acc ads rest, LcInv K b D G1 H1 G2 H B3 acc ads ∧ ads.length ≤ i + 1 ∧ lcGo tg c f (wipeE env vs) (ds.drop (i + 1)) B3 = some (rest, B2) ∧ es = ads ++ rest, fun H3 hN => ⟨ds.length - (i + 1), by omega, rfl, hlt, hN⟩, fun x H3 y => ?_⟩
            obtain ⟨G3, fr3, ex3, bg3, is3⟩ := yl x H3 y
            have L3 := L.step hDb fr3 ex3 bg3
            have s3 : St K b G3 (wipe σ vs) H3 (wipeE env vs) B3 := s1.step (L.frm.trans fr3 bg3.1) ex3 bg3
            refine ⟨G3, wipeE env vs, B3, ds[i], e1, s3, is3, hg, fun σ2 w2 s4 => ?_⟩
            refine ⟨(w2 vs hj).trans wipe_idem, G3, e1, B3, t, B4, s4, hc, fun G4 H4 fr4 ex4 bg4 => ?_⟩
            have L4 := L3.step hDb fr4 ex4 bg4
            cases t with
            | true =>
              rw [if_pos rfl] at ht
              obtain ⟨y1, B5, rs, hf, hr5, rfl⟩ := ht
              refine iteT ?_
              refine ⟨G4, e1, B4, y1, B5, s4.step fr4 ex4 bg4, hf, fun v G5 H5 fr5 ex5 bg5 is5 => ?_⟩
              have L5 := L4.step hDb fr5 ex5 bg5
              have hal : acc.length ≤ i := by rw [L.is.len]; exact hn
              exact ⟨acc, L5.at', sz_lt (by omega), G5, B5, acc ++ [v], ads ++ [y1], rs, L5.push hDb hDn is5, by rw [List.length_append]; show _ + 1 ≤ _; omega, hr5, by rw [he, List.append_assoc]; rfl⟩
            | false =>
              rw [if_neg Bool.false_ne_true] at ht
              refine iteF ?_
              exact ⟨G4, B4, acc, ads, rest, L4, by omega, ht, he⟩
          · refine .inl ⟨z1 (by omega), ?_⟩
            rw [List.drop_eq_nil_of_le (by omega)] at hr
            cases hr
            rw [List.append_nil] at he
            subst he
            refine k D (.lst acc) G2 H' ⟨fr1.ex.trans L.frm.ex, fun a o h n => L.frm.keep a o (fr1.keep a o h n) n, fun a o h n => ?_, fun c h => L.frm.cell c (fr1.cell c h)⟩ L.ex L.bag ?_ L.at' L.no hDb ⟨acc, rfl, L.is⟩
            · by_cases hab : a = b
              · rw [hab]; exact L.bag.1
              · exact L.frm.hide a o (fr1.keep a o h hab) (fr1.hide a o h n)
            · cases q : H D with
              | none => rfl
              | some o =>
                have := fr1.keep D o q hDb
                rw [hDn] at this
                cases this
    · cases ev

theorem pds_setLcO (i : Nat) {y : Str} {py : Pos} {elt iter : Expr} {ifs : List Expr} {scope : Scope} (own : List (Str × Nat)) {spos : Pos} {fi : DI} {g : DG} {js : List Nat} {c f : DE} (hc : X.calm = true) (hN : X.N.Nodup) (hy : X.N[i]? = some y) (hyl : X.env.scope.names.lookup y = some .local)
    (hw : swapsWith (.ListComp elt [⟨tg, iter, ifs, 0⟩] scope pos) (some (.Name y py)) spos.line X.env = pure true) (hi : PDI X b tg iter fi) (ok : BlkOk X.N X.env.scope scope own)
    (hg : ∀ (s : Shared) (H : Hp) (C : Addr) (cl : List (Str × Addr)) (fp : List Addr), PDG (X.blk s H scope (compEnvC scope cl C X.env) fp) b tg g js)
    (ht : ∀ (s : Shared) (H : Hp) (C : Addr) (cl : List (Str × Addr)) (fp : List Addr), PDTs (X.blk s H scope (compEnvC scope cl C X.env) fp) b ifs c)
    (he : ∀ (s : Shared) (H : Hp) (C : Addr) (cl : List (Str × Addr)) (fp : List Addr), PD (X.blk s H scope (compEnvC scope cl C X.env) fp) b elt f)
    (hj : ∀ j ∈ js, j ∈ own.map (·.2) := by decide) (hs : ∀ x, foldedSetIterable iter X.env x = pure x := by intro _; rfl) :
    PDS X b (.Assign [.Name y py] (.ListComp elt [⟨tg, iter, ifs, 0⟩] scope pos) spos) (dOwnE i (dLcO fi g c f (own.map (·.2)))) :=
  PS.imp (ps_setLc (g := tDG X.K b g js) (tt := tDT X.K b c) (te := tD X.K b f) hc hN hy hyl hw hi ok hg ht he hs) fun D σ H h => tDN_lc hj σ H _ (tDS_own D σ H h)
/-! ### dict(..) of pairs -/
def oDictOf : List PyData → Option OC
  | [.list ds] => if ds.length ≤ 100000 then (pairsD ds).map fun ps => .d (mergeO ps) else none
  | [.tuple ds] => if ds.length ≤ 100000 then (pairsD ds).map fun ps => .d (mergeO ps) else none
  | _ => none
/-- what stands at a tuple whose object is known -/
theorem plT_at {pins : List (Addr × Obj)} {σ : L2.St} {H : Hp} {s : Shared} {a : Addr} {xs : List V} (I : Inv X pins σ H s) (h : PlT X.K H a xs) : ∃ its : List Value, Vals xs its ∧ xs.length ≤ sizeLine ∧ PlainSeq "tuple" s.heap a its.toArray := by
  rcases h with ⟨ob, h, hd⟩ | ⟨ob, its, n, h1, hd, h3, h4, h5, h6⟩
  · obtain ⟨e, z, its, r, o, e2, hc, n, hs⟩ := I.hok a _ h
    rw [e] at e2
    cases e2
    exact ⟨its, r, z, ob, n, e, hc, hd, hs⟩
  · refine ⟨its.toList, h6, ?_, ob, n, I.kIn a ob h1, h3, hd, by rw [h4, Array.toArray_toList]⟩
    rw [h6.length, Array.length_toList]
    exact h5
def rDictP (K : PySem.W.Frag) : List V → Hp → VK → Prop := fun xs H Q => ∃ (a : Addr) (ps : List Addr) (kvs : List (Key × V)), xs = [.ref a] ∧ (SqL K H a (ps.map V.ref) ∨ PlT K H a (ps.map V.ref)) ∧ Paired (fun p kv => SqT K H p [kV kv.1, kv.2]) ps kvs ∧
  ∀ p, H p = none → Q (.ref p) (upd H p (.dK (mergeK [] kvs)))
theorem call_dictOf (hcalm : X.calm = true) : CallR X (.type "dict") (rDictP X.K) := by
  intro pins s σ H xs us Q I r q
  obtain ⟨a, ps, kvs, rfl, hs, hp, q⟩ := q
  rcases hs with hs | hs
  · exact call_dictP hcalm pins s σ H _ us Q I r ⟨a, ps, kvs, rfl, hs, hp, q⟩
  · rw [Vals.ref1 r]
    obtain ⟨its, rv, z, plain⟩ := plT_at I hs
    have items := refs_at rv
    subst items
    rw [List.length_map] at z
    obtain ⟨prs, rel, len, each⟩ := pairs_of I hp
    -- the keys as they stand in the pairs
    have keys : ∃ us : List Value, us.length = prs.length ∧ ∀ (j : Nat) (x : Key × Value), prs[j]? = some x → ∃ (c : Addr) (u : Value), us[j]? = some u ∧ ps[j]? = some c ∧ IsTup s.heap c #[u, x.2] ∧ keyIs x.1 u = true := by
      refine ⟨(List.range prs.length).map fun j => if h : j < prs.length then (each j _ (List.getElem?_eq_getElem h)).choose_spec.choose else .none, by simp, fun j x e => ?_⟩
      have hj : j < prs.length := (List.getElem?_eq_some_iff.mp e).1
      have ex : prs[j] = x := by
        rw [List.getElem?_eq_getElem hj] at e
        exact Option.some.inj e
      have spec := (each j _ (List.getElem?_eq_getElem hj)).choose_spec.choose_spec
      refine ⟨_, (each j _ (List.getElem?_eq_getElem hj)).choose_spec.choose, ?_, spec.1, ?_, ?_⟩
      · rw [List.getElem?_map, List.getElem?_range hj]
        simp only [Option.map_some, dif_pos hj]
      · rw [← ex]
        exact spec.2.1
      · rw [← ex]
        exact spec.2.2
    obtain ⟨us, ulen, keys⟩ := keys
    have small : (mergeK [] kvs).length ≤ sizeLine := by
      have := length_mergeK kvs []
      rw [List.length_nil, Nat.zero_add, rel.length, len] at this
      omega
    have zl : (us.zip (prs.map (·.2))).length = prs.length := by
      rw [List.length_zip, List.length_map, ulen, Nat.min_self]
    refine PySem.call_dict_pairs (knd := mixKind X.prog X.w) (kvs := prs) (PairArg.tuple a (ps.map Value.ref).toArray (fun j => ps.getD j 0) (us.zip (prs.map (·.2)))) (I.ok.hd hcalm) ⟨plain, by rw [List.size_toArray, List.length_map, zl, len], fun j k v e => ?_⟩ ⟨zl.symm, fun j k v e => ?_⟩ (by rw [zl, len]; exact z) fun h' tk made keep => ?_
    · rw [List.getElem?_zip_eq_some] at e
      obtain ⟨e1, e2⟩ := e
      rw [List.getElem?_map] at e2
      cases e3 : prs[j]? with
      | none => rw [e3] at e2; cases e2
      | some x =>
        rw [e3] at e2
        cases e2
        obtain ⟨c, u, k1, k2, k3, _⟩ := keys j x e3
        have k1 : some u = some k := k1.symm.trans e1
        cases k1
        have gd : ps.getD j 0 = c := by rw [List.getD_eq_getElem?_getD, k2]; rfl
        show _ = some (Value.ref (ps.getD j 0)) ∧ PairAt s.heap (ps.getD j 0) k x.2
        rw [gd]
        exact ⟨by simp [k2], .inl k3⟩
    · have e : (us.zip (prs.map (·.2)))[j]? = some (k, v) := e
      rw [List.getElem?_zip_eq_some] at e
      obtain ⟨e1, e2⟩ := e
      rw [List.getElem?_map] at e2
      cases e3 : prs[j]? with
      | none => rw [e3] at e2; cases e2
      | some x =>
        rw [e3] at e2
        cases e2
        obtain ⟨c, u, k1, k2, _, k4⟩ := keys j x e3
        rw [e1] at k1
        cases k1
        exact ⟨x.1, rfl, k4⟩
    · have away : (s.heap.objs.size == sysModules) = false := beq_eq_false_iff_ne.mpr (Nat.ne_of_gt I.big)
      exact ⟨.ref s.heap.objs.size, upd H s.heap.objs.size (.dK (mergeK [] kvs)), I.laid (t' := tk) (fun x o e => keep x o (fun z => nomatch z) e) (Nat.le_refl _) ⟨small, away, merged [] prs, KV.merge rel .nil, made⟩, rfl, q _ (I.hok.fresh (Nat.le_refl _))⟩
/-- pairs of data as addresses and keys -/
theorem IsL.pairs {K : PySem.W.Frag} {G H : Hp} (ex : Ex G H) : ∀ {vs : List V} {ds : List PyData} {ps : List (Key × PyData)}, IsL K G vs ds → pairsD ds = some ps → ∃ (as : List Addr) (kvs : List (Key × V)), vs = as.map V.ref ∧ Paired (fun p kv => SqT K H p [kV kv.1, kv.2]) as kvs ∧ kvs.map (·.1) = ps.map (·.1) ∧ IsD K G kvs (kvD ps)
  | _, _, _, .nil, e => by
    cases e
    exact ⟨[], [], rfl, .nil, rfl, .nil⟩
  | _, _, _, .cons (d := d) (ds := ds) h r, e => by
    unfold pairsD at e
    split at e
    · rename_i x k v r0 he
      cases he
    · rename_i k v ds' he
      cases he
      cases hk : dKey k with
      | none => rw [hk] at e; cases e
      | some key =>
        rw [hk, Option.bind_some] at e
        cases hr : pairsD ds with
        | none => rw [hr] at e; cases e
        | some qs =>
          rw [hr] at e
          cases e
          have ek := dKey_is hk
          subst ek
          obtain ⟨as, kvs, e1, e2, e3, e4⟩ := IsL.pairs ex r hr
          cases h with
          | @tup a xs _ ht hl =>
            cases hl with
            | cons i1 r1 =>
              cases r1 with
              | @cons v2 _ _ _ i2 r2 =>
                cases r2
                have ev := i1.key
                subst ev
                refine ⟨a :: as, (key, v2) :: kvs, by rw [e1]; rfl, .cons (ex_t ex ht.sq) e2, by rw [List.map_cons, List.map_cons, e3], .cons i2 e4⟩
    · cases e
theorem merge_keys {K : PySem.W.Frag} {G : Hp} : ∀ {more : List (Key × V)} {ps : List (Key × PyData)} {kvs : List (Key × V)} {qs : List (Key × PyData)}, more.map (·.1) = ps.map (·.1) → IsD K G more (kvD ps) → kvs.map (·.1) = qs.map (·.1) → IsD K G kvs (kvD qs) →
    (mergeK kvs more).map (·.1) = (ps.foldl (fun acc p => putO acc p.1 p.2) qs).map (·.1) ∧ IsD K G (mergeK kvs more) (kvD (ps.foldl (fun acc p => putO acc p.1 p.2) qs))
  | [], [], _, _, _, _, h1, h2 => ⟨h1, h2⟩
  | [], _ :: _, _, _, h, _, _, _ => nomatch h
  | _ :: _, [], _, _, h, _, _, _ => nomatch h
  | (k, v) :: more, (k', d) :: ps, kvs, qs, h, i, h1, h2 => by
    rw [List.map_cons, List.map_cons] at h
    injection h with ha hb
    have ha : k = k' := ha
    subst ha
    have i' : IsD K G ((k, v) :: more) ((keyD k, d) :: kvD ps) := i
    cases i' with
    | cons i1 i2 =>
      have step : IsD K G (putK kvs k v) (kvD (putO qs k d)) := by
        rw [← kvD_put]
        exact h2.put i1
      exact merge_keys (more := more) (ps := ps) (kvs := putK kvs k v) (qs := putO qs k d) hb i2 (keys_put h1) step
theorem ro_dictOf {K : PySem.W.Frag} : RLO K (rDictP K) oDictOf := fun b G H xs as c B Q ex bg is eg k => by
  have main : ∀ (a : Addr) (vs : List V) (ds : List PyData) (ps : List (Key × PyData)), IsL K G vs ds → pairsD ds = some ps → (∀ as : List Addr, vs = as.map V.ref → SqL K H a (as.map V.ref) ∨ PlT K H a (as.map V.ref)) → c = .d (mergeO ps) → rDictP K [.ref a] H Q := fun a vs ds ps hl hp hs hc => by
    subst hc
    obtain ⟨as, kvs, e1, e2, e3, e4⟩ := hl.pairs ex hp
    obtain ⟨m1, m2⟩ := merge_keys e3 e4 (kvs := []) (qs := []) rfl .nil
    exact ⟨a, as, kvs, rfl, hs as e1, e2, fun p hp => k.new ex bg hp ⟨_, rfl, m1, m2⟩⟩
  unfold oDictOf at eg
  split at eg
  · rename_i ds
    split at eg
    · cases hp : pairsD ds with
      | none => rw [hp] at eg; cases eg
      | some ps =>
        rw [hp] at eg
        cases eg
        cases is with
        | cons h r =>
          cases r
          cases h with
          | @lst a vs _ ha hl => exact main a vs ds ps hl hp (fun as e => .inl (by rw [← e]; exact sq_of (ex _ _ ha))) rfl
    · cases eg
  · rename_i ds
    split at eg
    · cases hp : pairsD ds with
      | none => rw [hp] at eg; cases eg
      | some ps =>
        rw [hp] at eg
        cases eg
        cases is with
        | cons h r =>
          cases r
          cases h with
          | @tup a vs _ ha hl => exact main a vs ds ps hl hp (fun as e => .inr (by rw [← e]; exact ha.mono ex)) rfl
    · cases eg
  · cases eg
theorem pdo_dictOf {as : List DAr} {p : Pos} (hc : X.calm = true) (hm : X.mg "dict" = none) (hg : Gl X "dict") (ha : PDA X b [e] as) (he : starEach [e] X.env = (false, eval e X.env) :: starEach [] X.env := by rfl) : PDN X b (.Call (.Name "dict" p) [e] [] pos) (dCBO oDictOf as) := pdo_ct (call_dictOf hc) ro_dictOf hg hm (by decide +kernel) ha (by decide) (by decide) he (by rfl)
end
end Dl

/-! DK: what is walked in pairs that nobody keeps: enumerate, zip, items. The same as for data, but that a pair is read at once. -/
namespace Dl
open PySem L2 Evl PyProof.Rows
/-- a pair that is no datum, its parts are -/
def IsW (K : PySem.W.Frag) (G H : Hp) (v : V) (d : PyData) : Prop := ∃ a xs ds, v = .ref a ∧ d = .tuple ds ∧ SqT K H a xs ∧ IsL K G xs ds
def tDGW (K : PySem.W.Frag) (b : Addr) (g : DG) (js : List Nat) : TG := fun v σ H Q => ∃ G env B d env', St K b G σ H env B ∧ IsW K G H v d ∧ g d env = some env' ∧ ∀ σ', (∀ vs : List Nat, (∀ j ∈ js, j ∈ vs) → wipe σ' vs = wipe σ vs) → St K b G σ' H env' B → Q σ' H
def PDGW (X : Cx) (b : Addr) (tg : Expr) (g : DG) (js : List Nat) : Prop := PG X tg (tDGW X.K b g js)
def tDGSW (K : PySem.W.Frag) (b : Addr) (g : DG) : TG := fun v σ H Q => ∃ G0 H0 Gm G env B d env', SS K b G0 H0 Gm G σ H env B ∧ IsW K G H v d ∧ g d env = some env' ∧ ∀ σ', SS K b G0 H0 Gm G σ' H env' B → Q σ' H
def PDGSW (X : Cx) (b : Addr) (tg : Expr) (g : DG) : Prop := PG X tg (tDGSW X.K b g)
def ItOkW (K : PySem.W.Frag) (b : Addr) (G : Hp) (J : It) (ds : List PyData) : Prop := ∀ (i : Nat) (G1 H1 : Hp) (B : Bg), Ex G G1 → Ex G1 H1 → BagAt b G1 H1 B →
  (ds.length ≤ i → J.stop i H1) ∧ ∀ d, ds[i]? = some d → J.go i H1 ∧ ∀ x H2, J.yld i H1 x H2 → ∃ G2, Frm b G1 H1 G2 H2 ∧ Ex G2 H2 ∧ BagAt b G2 H2 B ∧ IsW K G2 H2 x d
def tDIW (K : PySem.W.Frag) (b : Addr) (f : DI) : TI := fun σ H R => ∃ G env B ds B', St K b G σ H env B ∧ f env B = some (ds, B') ∧ ∀ J G' H', Frm b G H G' H' → Ex G' H' → BagAt b G' H' B' → ItOkW K b G' J ds → R J H'
def PDIW (X : Cx) (b : Addr) (tg e : Expr) (f : DI) : Prop := PI X tg e (tDIW X.K b f)
section
variable {X : Cx} {b : Addr} {pos : Pos}
theorem pdgw_tup {es : List Expr} {k : Nat} {r : DGs} {js : List Nat} {n : Nat} (hc : X.calm = true) (h : PDGs X b es r js) (hn : (assignEach es X.env).length = n := by rfl) (hst : (assignEach es X.env).findIdx? (·.1) = none := by rfl) : PDGW X b (.Tuple es k pos) (gTup n r) js :=
  PG.imp (pg_tup hc h hn hst) fun v σ H Q ⟨G, env, B, d, env', s, is, ev, kk⟩ => by
    obtain ⟨a, xs, ds, rfl, rfl, ht, hl⟩ := is
    have ev : (if ds.length = n then r ds env else none) = some env' := ev
    split at ev
    · exact ⟨a, xs, rfl, ht, by rw [hl.len]; assumption, G, env, B, ds, env', s, hl, ev, kk⟩
    · cases ev
theorem pdnw_tup {es : List Expr} {k : Nat} {r : DGs} {n : Nat} (hc : X.calm = true) (h : PDGSs X b es r) (hn : (assignEach es X.env).length = n := by rfl) (hst : (assignEach es X.env).findIdx? (·.1) = none := by rfl) : PDGSW X b (.Tuple es k pos) (gTup n r) :=
  PG.imp (pg_tup hc h hn hst) fun v σ H Q ⟨G0, H0, Gm, G, env, B, d, env', s, is, ev, kk⟩ => by
    obtain ⟨a, xs, ds, rfl, rfl, ht, hl⟩ := is
    have ev : (if ds.length = n then r ds env else none) = some env' := ev
    split at ev
    · exact ⟨a, xs, rfl, ht, by rw [hl.len]; assumption, G0, H0, Gm, G, env, B, ds, env', s, hl, ev, kk⟩
    · cases ev
/-- a pair laid down by nobody's data -/
theorem pair_frm {K : PySem.W.Frag} {G H : Hp} {B : Bg} {p : Addr} {o : HO} (e : Ex G H) (g : BagAt b G H B) (hp : H p = none) : Frm b G H G (upd H p o) ∧ Ex G (upd H p o) ∧ BagAt b G (upd H p o) B := by
  refine ⟨⟨Ex.refl _, fun a u h _ => ?_, fun _ _ _ n => n, fun c h => h.new hp⟩, e.trans (Ex.new hp), ?_⟩
  · rw [upd_ne (ne_of_none h hp)]
    exact h
  · obtain ⟨g1, c, g2, g3⟩ := g
    exact ⟨g1, c, by rw [upd_ne (ne_of_none g2 hp)]; exact g2, g3⟩
def enD (n : Nat) : List PyData → List PyData
  | [] => []
  | d :: ds => .tuple [.int n, d] :: enD (n + 1) ds
theorem enD_len : ∀ (ds : List PyData) (n : Nat), (enD n ds).length = ds.length
  | [], _ => rfl
  | _ :: ds, n => by
    show (enD (n + 1) ds).length + 1 = _
    rw [enD_len ds (n + 1)]
    all_goals rfl
theorem enD_get : ∀ (ds : List PyData) (n i : Nat), (enD n ds)[i]? = ds[i]?.map fun d => .tuple [.int ((n + i : Nat) : Int), d]
  | [], _, _ => rfl
  | d :: ds, n, 0 => rfl
  | d :: ds, n, i + 1 => by
    show (enD (n + 1) ds)[i]? = _
    rw [enD_get ds (n + 1) i, List.getElem?_cons_succ, show n + 1 + i = n + (i + 1) by omega]
theorem itOk_enum {K : PySem.W.Frag} {G : Hp} {a : Addr} {xs : List V} {ds : List PyData} (h : G a = some (.lst xs)) (hl : IsL K G xs ds) : ItOkW K b G (Ite K a) (enD 0 ds) := fun i G1 H1 B e1 e2 g => by
  have q : SqL K H1 a xs := sq_of (e2 a _ (e1 a _ h))
  refine ⟨fun hi => ⟨xs, q, by rw [hl.len]; rw [enD_len] at hi; exact hi⟩, fun d hd => ?_⟩
  rw [enD_get] at hd
  cases h1 : ds[i]? with
  | none => rw [h1] at hd; cases hd
  | some d1 =>
    rw [h1] at hd
    cases hd
    obtain ⟨v, hv, is⟩ := hl.get h1
    refine ⟨⟨xs, v, q, hv⟩, fun x H2 y => ?_⟩
    obtain ⟨T, z, rfl, hT, rfl, y⟩ := y
    have z2 := y xs q
    rw [hv] at z2
    cases z2
    obtain ⟨f1, f2, f3⟩ := pair_frm (K := K) (o := .tup [.int (i : Nat), v]) e2 g hT
    exact ⟨G1, f1, f2, f3, T, _, _, rfl, rfl, .inl (.inl upd_same), .cons (by rw [Nat.zero_add]; exact .int _) (.cons (is.mono e1) .nil)⟩
def iEn (as : List DAr) : DI := fun env B => (dArgs as env B).bind fun p => match arD p.1 with
  | some [.list ds] => some (enD 0 ds, p.2)
  | _ => none
theorem pdi_enum {e : Expr} {as : List DAr} {p tpos : Pos} {elts : List Expr} {kk : Nat} (hg : Gl X "enumerate") (hm : X.mg "enumerate" = none) (ha : PDA X b [e] as) (hs : starEach [e] X.env = [(false, eval e X.env)] := by rfl) :
    PDIW X b (.Tuple elts kk tpos) (.Call (.Name "enumerate" p) [e] [] pos) (iEn as) := PI.imp (pi_enum hg hm ha hs) fun σ H R ⟨G, env, B, ds, B', s, ev, k⟩ => by
  unfold iEn at ev
  cases h1 : dArgs as env B with
  | none => rw [h1] at ev; cases ev
  | some p =>
    rw [h1, Option.bind_some] at ev
    split at ev
    · rename_i ds1 h2
      cases ev
      refine ⟨G, env, B, p.1, p.2, s, h1, fun vs G1 H1 fr ex bg is => ?_⟩
      have q := arD_is is h2
      cases q with
      | cons i1 r =>
        cases r
        cases i1 with
        | lst ha' hl => exact ⟨_, _, rfl, sq_of (ex _ _ ha'), k _ G1 H1 fr ex bg (itOk_enum ha' hl)⟩
    · cases ev
def zipD : List PyData → List PyData → List PyData
  | d :: ds, e :: es => .tuple [d, e] :: zipD ds es
  | _, _ => []
theorem zipD_get : ∀ (ds es : List PyData) (i : Nat) (d e : PyData), ds[i]? = some d → es[i]? = some e → (zipD ds es)[i]? = some (.tuple [d, e])
  | _ :: _, _ :: _, 0, _, _, h1, h2 => by
    cases h1
    cases h2
    rfl
  | _ :: ds, _ :: es, i + 1, d, e, h1, h2 => zipD_get ds es i d e h1 h2
  | [], _, _, _, _, h1, _ => by simp at h1
  | _ :: _, [], _, _, _, _, h2 => by simp at h2
theorem zipD_len : ∀ (ds es : List PyData), (zipD ds es).length = min ds.length es.length
  | [], _ => by simp [zipD]
  | _ :: _, [] => by simp [zipD]
  | _ :: ds, _ :: es => by
    show (zipD ds es).length + 1 = _
    rw [zipD_len ds es, List.length_cons, List.length_cons]
    omega
theorem itOk_zip {K : PySem.W.Frag} {G : Hp} {a c : Addr} {xs ys : List V} {ds es : List PyData} (h : G a = some (.lst xs)) (hl : IsL K G xs ds) (h' : G c = some (.lst ys)) (hl' : IsL K G ys es) : ItOkW K b G (Itz K a c) (zipD ds es) := fun i G1 H1 B e1 e2 g => by
  have q : SqL K H1 a xs := sq_of (e2 a _ (e1 a _ h))
  have q' : SqL K H1 c ys := sq_of (e2 c _ (e1 c _ h'))
  refine ⟨fun hi => ⟨xs, ys, q, q', by rw [hl.len, hl'.len]; rw [zipD_len] at hi; omega⟩, fun d hd => ?_⟩
  have hi : i < min ds.length es.length := by
    rw [← zipD_len]
    exact (List.getElem?_eq_some_iff.mp hd).1
  have h1 : ds[i]? = some ds[i] := List.getElem?_eq_getElem (by omega)
  have h2 : es[i]? = some es[i] := List.getElem?_eq_getElem (by omega)
  rw [zipD_get _ _ _ _ _ h1 h2] at hd
  cases hd
  obtain ⟨v, hv, is⟩ := hl.get h1
  obtain ⟨u, hu, is'⟩ := hl'.get h2
  refine ⟨⟨xs, ys, v, u, q, q', hv, hu⟩, fun x H2 y => ?_⟩
  obtain ⟨T, z1, z2, rfl, hT, rfl, y1, y2⟩ := y
  have w1 := y1 xs q
  have w2 := y2 ys q'
  rw [hv] at w1
  rw [hu] at w2
  cases w1
  cases w2
  obtain ⟨f1, f2, f3⟩ := pair_frm (K := K) (o := .tup [v, u]) e2 g hT
  exact ⟨G1, f1, f2, f3, T, _, _, rfl, rfl, .inl (.inl upd_same), .cons (is.mono e1) (.cons (is'.mono e1) .nil)⟩
def iZp (as : List DAr) : DI := fun env B => (dArgs as env B).bind fun p => match arD p.1 with
  | some [.list ds, .list es] => some (zipD ds es, p.2)
  | _ => none
theorem pdi_zip {e e2 : Expr} {as : List DAr} {p tpos : Pos} {elts : List Expr} {kk : Nat} (hg : Gl X "zip") (hm : X.mg "zip" = none) (ha : PDA X b [e, e2] as) (hs : starEach [e, e2] X.env = (false, eval e X.env) :: starEach [e2] X.env := by rfl) (hpl : (backTo pos (starEach [e2] X.env)).any (·.1) = false := by rfl) :
    PDIW X b (.Tuple elts kk tpos) (.Call (.Name "zip" p) [e, e2] [] pos) (iZp as) := PI.imp (pi_zip hg hm ha hs hpl) fun σ H R ⟨G, env, B, ds, B', s, ev, k⟩ => by
  unfold iZp at ev
  cases h1 : dArgs as env B with
  | none => rw [h1] at ev; cases ev
  | some p =>
    rw [h1, Option.bind_some] at ev
    split at ev
    · rename_i ds1 es1 h2
      cases ev
      refine ⟨G, env, B, p.1, p.2, s, h1, fun vs G1 H1 fr ex bg is => ?_⟩
      have q := arD_is is h2
      cases q with
      | cons i1 r =>
        cases r with
        | cons i2 r =>
          cases r
          cases i1 with
          | lst ha1 hl1 =>
            cases i2 with
            | lst ha2 hl2 => exact ⟨_, _, _, _, rfl, sq_of (ex _ _ ha1), sq_of (ex _ _ ha2), k _ G1 H1 fr ex bg (itOk_zip ha1 hl1 ha2 hl2)⟩
    · cases ev
end
section
variable {X : Cx} {b : Addr} {pos : Pos} {e tg : Expr} {f : DE} {st : Stmt} {sts : List Stmt} {g g1 g2 : DS}
theorem tD_lcW {K : PySem.W.Frag} {fi : DI} {tg : DG} {js vs : List Nat} {c f : DE} (hj : ∀ j ∈ js, j ∈ vs) : ∀ σ H Q, tD K b (dLc fi tg c f vs) σ H Q → tLc (tDIW K b fi) (tDGW K b tg js) (tDT K b c) (tD K b f) vs σ H Q := fun σ H Q ⟨G, env, B, d, B', s, ev, k⟩ => by
  unfold dLc at ev
  cases h1 : fi env B with
  | none => rw [h1] at ev; cases ev
  | some p =>
    obtain ⟨ds, B1⟩ := p
    rw [h1, Option.bind_some] at ev
    dsimp only at ev
    split at ev
    · rename_i hsz
      cases h2 : lcGo tg c f (wipeE env vs) ds B1 with
      | none => rw [h2] at ev; cases ev
      | some q =>
        obtain ⟨es, B2⟩ := q
        rw [h2] at ev
        simp only [Option.map_some, Option.some.injEq, Prod.mk.injEq] at ev
        obtain ⟨rfl, rfl⟩ := ev
        refine ⟨G, env, B, ds, B1, s, h1, fun J G1 H1 fr1 ex1 bg1 it => ?_⟩
        intro D hDn
        have hDb : D ≠ b := fun e => by
          obtain ⟨o, ho⟩ := bg1.at
          rw [← e, hDn] at ho
          cases ho
        have s1 := (s.step fr1 ex1 bg1).wipe vs
        have gD : G1 D = none := ex_none ex1 hDn
        refine ⟨fun i m H => m = ds.length - i ∧ i ≤ ds.length ∧ ∃ G2 B3 acc ads rest, LcInv K b D G1 H1 G2 H B3 acc ads ∧ ads.length ≤ i ∧ lcGo tg c f (wipeE env vs) (ds.drop i) B3 = some (rest, B2) ∧ es = ads ++ rest, ⟨ds.length, rfl, Nat.zero_le _, G1, B1, [], [], es, ?_, Nat.le_refl _, by simpa using h2, rfl⟩, ?_⟩
        · exact ⟨⟨Ex.refl _, fun a o h _ => by rw [upd_ne (ne_of_none h hDn)]; exact h, fun _ _ _ n => n, fun c h => h.new hDn⟩, ex1.trans (Ex.new hDn), gD, by
            obtain ⟨h1, c, h2, h3⟩ := bg1
            exact ⟨h1, c, by rw [upd_ne hDb.symm]; exact h2, h3⟩, upd_same, .nil⟩
        · rintro i m H' ⟨rfl, hi, G2, B3, acc, ads, rest, L, hn, hr, he⟩
          obtain ⟨z1, z2⟩ := it i G2 H' B3 L.frm.ex L.ex L.bag
          by_cases hlt : i < ds.length
          · have hd : ds[i]? = some ds[i] := List.getElem?_eq_getElem hlt
            obtain ⟨go, yl⟩ := z2 _ hd
            rw [List.drop_eq_getElem_cons hlt] at hr
            obtain ⟨e1, t, B4, hg, hc, ht⟩ := lcGo_cons hr
            refine .inr ⟨go, fun H => ∃ G2 B3 acc ads rest, LcInv K b D G1 H1 G2 H B3 acc ads ∧ ads.length ≤ i + 1 ∧ lcGo tg c f (wipeE env vs) (ds.drop (i + 1)) B3 = some (rest, B2) ∧ es = ads ++ rest, fun H3 hN => ⟨ds.length - (i + 1), by omega, rfl, hlt, hN⟩, fun x H3 y => ?_⟩
            obtain ⟨G3, fr3, ex3, bg3, is3⟩ := yl x H3 y
            have L3 := L.step hDb fr3 ex3 bg3
            have s3 : St K b G3 (wipe σ vs) H3 (wipeE env vs) B3 := s1.step (L.frm.trans fr3 bg3.1) ex3 bg3
            refine ⟨G3, wipeE env vs, B3, ds[i], e1, s3, is3, hg, fun σ2 w2 s4 => ?_⟩
            refine ⟨(w2 vs hj).trans wipe_idem, G3, e1, B3, t, B4, s4, hc, fun G4 H4 fr4 ex4 bg4 => ?_⟩
            have L4 := L3.step hDb fr4 ex4 bg4
            cases t with
            | true =>
              rw [if_pos rfl] at ht
              obtain ⟨y1, B5, rs, hf, hr5, rfl⟩ := ht
              refine iteT ?_
              refine ⟨G4, e1, B4, y1, B5, s4.step fr4 ex4 bg4, hf, fun v G5 H5 fr5 ex5 bg5 is5 => ?_⟩
              have L5 := L4.step hDb fr5 ex5 bg5
              have hal : acc.length ≤ i := by rw [L.is.len]; exact hn
              exact ⟨acc, L5.at', sz_lt (by omega), G5, B5, acc ++ [v], ads ++ [y1], rs, L5.push hDb hDn is5, by rw [List.length_append]; show _ + 1 ≤ _; omega, hr5, by rw [he, List.append_assoc]; rfl⟩
            | false =>
              rw [if_neg Bool.false_ne_true] at ht
              refine iteF ?_
              exact ⟨G4, B4, acc, ads, rest, L4, by omega, ht, he⟩
          · refine .inl ⟨z1 (by omega), ?_⟩
            rw [List.drop_eq_nil_of_le (by omega)] at hr
            cases hr
            rw [List.append_nil] at he
            subst he
            have gD2 : G2 D = none := L.no
            refine k (.ref D) (upd G2 D (.lst acc)) H' ⟨fr1.ex.trans (L.frm.ex.trans (Ex.new gD2)), fun a o h n => L.frm.keep a o (fr1.keep a o h n) n, fun a o h n => ?_, fun c h => L.frm.cell c (fr1.cell c h)⟩ (fun a o h => ?_) ⟨?_, ?_⟩ (.lst upd_same (L.is.mono (Ex.new gD2)))
            · have h' : a ≠ D := by
                intro e
                subst e
                by_cases hab : a = b
                · exact hDb hab
                · have := fr1.keep a o h hab
                  rw [hDn] at this
                  cases this
              rw [upd_ne h']
              by_cases hab : a = b
              · rw [hab]; exact L.bag.1
              · exact L.frm.hide a o (fr1.keep a o h hab) (fr1.hide a o h n)
            · by_cases e : a = D
              · subst e
                rw [upd_same] at h
                cases h
                exact L.at'
              · rw [upd_ne e] at h
                exact L.ex a o h
            · rw [upd_ne hDb.symm]; exact L.bag.1
            · obtain ⟨h1, c', h2, h3⟩ := L.bag
              exact ⟨c', h2, by rw [upd_ne (ne_of_none h3 gD2)]; exact h3⟩
    · cases ev
theorem pd_lcW {elt iter : Expr} {ifs : List Expr} {scope : Scope} (own : List (Str × Nat)) {fi : DI} {g : DG} {js : List Nat} {c f : DE} (hc : X.calm = true) (hN : X.N.Nodup) (hi : PDIW X b tg iter fi) (ok : BlkOk X.N X.env.scope scope own)
    (hg : ∀ (s : Shared) (H : Hp) (C : Addr) (cl : List (Str × Addr)) (fp : List Addr), PDGW (X.blk s H scope (compEnvC scope cl C X.env) fp) b tg g js)
    (ht : ∀ (s : Shared) (H : Hp) (C : Addr) (cl : List (Str × Addr)) (fp : List Addr), PDTs (X.blk s H scope (compEnvC scope cl C X.env) fp) b ifs c)
    (he : ∀ (s : Shared) (H : Hp) (C : Addr) (cl : List (Str × Addr)) (fp : List Addr), PD (X.blk s H scope (compEnvC scope cl C X.env) fp) b elt f)
    (hj : ∀ j ∈ js, j ∈ own.map (·.2) := by decide) (hs : ∀ x, foldedSetIterable iter X.env x = pure x := by intro _; rfl) :
    PD X b (.ListComp elt [⟨tg, iter, ifs, 0⟩] scope pos) (dLc fi g c f (own.map (·.2))) := PE.imp (pe_lc (g := tDGW X.K b g js) (tt := tDT X.K b c) (te := tD X.K b f) hc hN hi ok hg ht he hs) (tD_lcW hj)
theorem pds_setLcW (i : Nat) {y : Str} {py : Pos} {elt iter : Expr} {ifs : List Expr} {scope : Scope} (own : List (Str × Nat)) {spos : Pos} {fi : DI} {g : DG} {js : List Nat} {c f : DE} (hc : X.calm = true) (hN : X.N.Nodup) (hy : X.N[i]? = some y) (hyl : X.env.scope.names.lookup y = some .local)
    (hw : swapsWith (.ListComp elt [⟨tg, iter, ifs, 0⟩] scope pos) (some (.Name y py)) spos.line X.env = pure true) (hi : PDIW X b tg iter fi) (ok : BlkOk X.N X.env.scope scope own)
    (hg : ∀ (s : Shared) (H : Hp) (C : Addr) (cl : List (Str × Addr)) (fp : List Addr), PDGW (X.blk s H scope (compEnvC scope cl C X.env) fp) b tg g js)
    (ht : ∀ (s : Shared) (H : Hp) (C : Addr) (cl : List (Str × Addr)) (fp : List Addr), PDTs (X.blk s H scope (compEnvC scope cl C X.env) fp) b ifs c)
    (he : ∀ (s : Shared) (H : Hp) (C : Addr) (cl : List (Str × Addr)) (fp : List Addr), PD (X.blk s H scope (compEnvC scope cl C X.env) fp) b elt f)
    (hj : ∀ j ∈ js, j ∈ own.map (·.2) := by decide) (hs : ∀ x, foldedSetIterable iter X.env x = pure x := by intro _; rfl) :
    PDS X b (.Assign [.Name y py] (.ListComp elt [⟨tg, iter, ifs, 0⟩] scope pos) spos) (dAsg (gOne i) (dLc fi g c f (own.map (·.2)))) :=
  PS.imp (ps_setLc (g := tDGW X.K b g js) (tt := tDT X.K b c) (te := tD X.K b f) hc hN hy hyl hw hi ok hg ht he hs) fun D σ H ⟨G0, H0, Gm, G, env, B, o, s, ev, k⟩ => by
    obtain ⟨d, B1, e1, h1, h2, rfl⟩ := dAsg_some ev
    cases h2
    refine tD_lcW hj σ H (fun x H1 => gName i x σ H1 D.nx) ⟨G, env, B, d, B1, s.toSt, h1, fun v G1 H1 fr ex bg is => ?_⟩
    exact k G1 _ H1 ((s.step fr ex bg).put is)
theorem tDN_lcW {K : PySem.W.Frag} {fi : DI} {tg : DG} {js vs : List Nat} {c f : DE} (hj : ∀ j ∈ js, j ∈ vs) : ∀ σ H Q, tDN K b (dLcO fi tg c f vs) σ H Q → tLc (tDIW K b fi) (tDGW K b tg js) (tDT K b c) (tD K b f) vs σ H Q := fun σ H Q ⟨G, env, B, d, B', s, ev, k⟩ => by
  unfold dLcO at ev
  cases h1 : fi env B with
  | none => rw [h1] at ev; cases ev
  | some p =>
    obtain ⟨ds, B1⟩ := p
    rw [h1, Option.bind_some] at ev
    dsimp only at ev
    split at ev
    · rename_i hsz
      cases h2 : lcGo tg c f (wipeE env vs) ds B1 with
      | none => rw [h2] at ev; cases ev
      | some q =>
        obtain ⟨es, B2⟩ := q
        rw [h2] at ev
        simp only [Option.map_some, Option.some.injEq, Prod.mk.injEq] at ev
        obtain ⟨rfl, rfl⟩ := ev
        refine ⟨G, env, B, ds, B1, s, h1, fun J G1 H1 fr1 ex1 bg1 it => ?_⟩
        intro D hDn
        have hDb : D ≠ b := fun e => by
          obtain ⟨o, ho⟩ := bg1.at
          rw [← e, hDn] at ho
          cases ho
        have s1 := (s.step fr1 ex1 bg1).wipe vs
        have gD : G1 D = none := ex_none ex1 hDn
        refine ⟨fun i m H => m = ds.length - i ∧ i ≤ ds.length ∧ ∃ G2 B3 acc ads rest, LcInv K b D G1 H1 G2 H B3 acc ads ∧ ads.length ≤ i ∧ lcGo tg c f (wipeE env vs) (ds.drop i) B3 = some (rest, B2) ∧ es = ads ++ rest, ⟨ds.length, rfl, Nat.zero_le _, G1, B1, [], [], es, ?_, Nat.le_refl _, by simpa using h2, rfl⟩, ?_⟩
        · exact ⟨⟨Ex.refl _, fun a o h _ => by rw [upd_ne (ne_of_none h hDn)]; exact h, fun _ _ _ n => n, fun c h => h.new hDn⟩, ex1.trans (Ex.new hDn), gD, by
            obtain ⟨h1, c, h2, h3⟩ := bg1
            exact ⟨h1, c, by rw [upd_ne hDb.symm]; exact h2, h3⟩, upd_same, .nil⟩
        · rintro i m H' ⟨rfl, hi, G2, B3, acc, ads, rest, L, hn, hr, he⟩
          obtain ⟨z1, z2⟩ := it i G2 H' B3 L.frm.ex L.ex L.bag
          by_cases hlt : i < ds.length
          · have hd : ds[i]? = some ds[i] := List.getElem?_eq_getElem hlt
            obtain ⟨go, yl⟩ := z2 _ hd
            rw [List.drop_eq_getElem_cons hlt] at hr
            obtain ⟨e1, t, B4, hg, hc, ht⟩ := lcGo_cons hr
            refine .inr ⟨go, fun H => ∃ G2 B3 acc ads rest, LcInv K b D G1 H1 G2 H B3 acc ads ∧ ads.length ≤ i + 1 ∧ lcGo tg c f (wipeE env vs) (ds.drop (i + 1)) B3 = some (rest, B2) ∧ es = ads ++ rest, fun H3 hN => ⟨ds.length - (i + 1), by omega, rfl, hlt, hN⟩, fun x H3 y => ?_⟩
            obtain ⟨G3, fr3, ex3, bg3, is3⟩ := yl x H3 y
            have L3 := L.step hDb fr3 ex3 bg3
            have s3 : St K b G3 (wipe σ vs) H3 (wipeE env vs) B3 := s1.step (L.frm.trans fr3 bg3.1) ex3 bg3
            refine ⟨G3, wipeE env vs, B3, ds[i], e1, s3, is3, hg, fun σ2 w2 s4 => ?_⟩
            refine ⟨(w2 vs hj).trans wipe_idem, G3, e1, B3, t, B4, s4, hc, fun G4 H4 fr4 ex4 bg4 => ?_⟩
            have L4 := L3.step hDb fr4 ex4 bg4
            cases t with
            | true =>
              rw [if_pos rfl] at ht
              obtain ⟨y1, B5, rs, hf, hr5, rfl⟩ := ht
              refine iteT ?_
              refine ⟨G4, e1, B4, y1, B5, s4.step fr4 ex4 bg4, hf, fun v G5 H5 fr5 ex5 bg5 is5 => ?_⟩
              have L5 := L4.step hDb fr5 ex5 bg5
              have hal : acc.length ≤ i := by rw [L.is.len]; exact hn
              exact ⟨acc, L5.at', sz_lt (by omega), G5, B5, acc ++ [v], ads ++ [y1], rs, L5.push hDb hDn is5, by rw [List.length_append]; show _ + 1 ≤ _; omega, hr5, by rw [he, List.append_assoc]; rfl⟩
            | false =>
              rw [if_neg Bool.false_ne_true] at ht
              refine iteF ?_
              exact ⟨G4, B4, acc, ads, rest, L4, by omega, ht, he⟩
          · refine .inl ⟨z1 (by omega), ?_⟩
            rw [List.drop_eq_nil_of_le (by omega)] at hr
            cases hr
            rw [List.append_nil] at he
            subst he
            refine k D (.lst acc) G2 H' ⟨fr1.ex.trans L.frm.ex, fun a o h n => L.frm.keep a o (fr1.keep a o h n) n, fun a o h n => ?_, fun c h => L.frm.cell c (fr1.cell c h)⟩ L.ex L.bag ?_ L.at' L.no hDb ⟨acc, rfl, L.is⟩
            · by_cases hab : a = b
              · rw [hab]; exact L.bag.1
              · exact L.frm.hide a o (fr1.keep a o h hab) (fr1.hide a o h n)
            · cases q : H D with
              | none => rfl
              | some o =>
                have := fr1.keep D o q hDb
                rw [hDn] at this
                cases this
    · cases ev

theorem pds_setLcOW (i : Nat) {y : Str} {py : Pos} {elt iter : Expr} {ifs : List Expr} {scope : Scope} (own : List (Str × Nat)) {spos : Pos} {fi : DI} {g : DG} {js : List Nat} {c f : DE} (hc : X.calm = true) (hN : X.N.Nodup) (hy : X.N[i]? = some y) (hyl : X.env.scope.names.lookup y = some .local)
    (hw : swapsWith (.ListComp elt [⟨tg, iter, ifs, 0⟩] scope pos) (some (.Name y py)) spos.line X.env = pure true) (hi : PDIW X b tg iter fi) (ok : BlkOk X.N X.env.scope scope own)
    (hg : ∀ (s : Shared) (H : Hp) (C : Addr) (cl : List (Str × Addr)) (fp : List Addr), PDGW (X.blk s H scope (compEnvC scope cl C X.env) fp) b tg g js)
    (ht : ∀ (s : Shared) (H : Hp) (C : Addr) (cl : List (Str × Addr)) (fp : List Addr), PDTs (X.blk s H scope (compEnvC scope cl C X.env) fp) b ifs c)
    (he : ∀ (s : Shared) (H : Hp) (C : Addr) (cl : List (Str × Addr)) (fp : List Addr), PD (X.blk s H scope (compEnvC scope cl C X.env) fp) b elt f)
    (hj : ∀ j ∈ js, j ∈ own.map (·.2) := by decide) (hs : ∀ x, foldedSetIterable iter X.env x = pure x := by intro _; rfl) :
    PDS X b (.Assign [.Name y py] (.ListComp elt [⟨tg, iter, ifs, 0⟩] scope pos) spos) (dOwnE i (dLcO fi g c f (own.map (·.2)))) :=
  PS.imp (ps_setLc (g := tDGW X.K b g js) (tt := tDT X.K b c) (te := tD X.K b f) hc hN hy hyl hw hi ok hg ht he hs) fun D σ H h => tDN_lcW hj σ H _ (tDS_own D σ H h)
theorem tDS_forW {K : PySem.W.Frag} {fi : DI} {tg : DG} : ∀ D σ H, tDS K b (dFor fi tg g) D σ H → tFor (tDIW K b fi) (tDGSW K b tg) (tDS K b g) D σ H := fun D σ H ⟨G0, H0, Gm, G, env, B, o, s, ev, k⟩ => by
  unfold dFor at ev
  cases h1 : fi env B with
  | none => rw [h1] at ev; cases ev
  | some p =>
    obtain ⟨ds, B1⟩ := p
    rw [h1, Option.bind_some] at ev
    dsimp only at ev
    refine ⟨G, env, B, ds, B1, s.toSt, h1, fun J G1 H1 fr1 ex1 bg1 it => ?_⟩
    refine ⟨fun i m σ H => m = ds.length - i ∧ i ≤ ds.length ∧ ∃ G2 env2 B2, SS K b G0 H0 Gm G2 σ H env2 B2 ∧ Ex G1 G2 ∧ forGo tg g (ds.drop i) env2 B2 = some o, ⟨ds.length, rfl, Nat.zero_le _, G1, env, B1, s.step fr1 ex1 bg1, Ex.refl _, by simpa using ev⟩, ?_⟩
    rintro i m σ2 H2 ⟨rfl, hi, G2, env2, B2, s2, e2, hf⟩
    obtain ⟨z1, z2⟩ := it i G2 H2 B2 e2 s2.ex s2.bag
    by_cases hlt : i < ds.length
    · have hd : ds[i]? = some ds[i] := List.getElem?_eq_getElem hlt
      obtain ⟨go, yl⟩ := z2 _ hd
      rw [List.drop_eq_getElem_cons hlt] at hf
      unfold forGo at hf
      cases h3 : tg ds[i] env2 with
      | none => rw [h3] at hf; cases hf
      | some e3 =>
        rw [h3, Option.bind_some] at hf
        cases h4 : g e3 B2 with
        | none => rw [h4] at hf; cases hf
        | some o4 =>
          rw [h4, Option.bind_some] at hf
          refine .inr ⟨go, fun σ H => ∃ G2 env2 B2, SS K b G0 H0 Gm G2 σ H env2 B2 ∧ Ex G1 G2 ∧ forGo tg g (ds.drop (i + 1)) env2 B2 = some o, fun σ3 H3 hN => ⟨ds.length - (i + 1), by omega, rfl, hlt, hN⟩, fun x H3 y => ?_⟩
          obtain ⟨G3, fr3, ex3, bg3, is3⟩ := yl x H3 y
          have s3 := s2.step fr3 ex3 bg3
          have e13 : Ex G1 G3 := e2.trans fr3.ex
          refine ⟨G0, H0, G1, G3, env2, B2, ds[i], e3, ⟨s3.toSt, s3.frm, e13, s3.fresh⟩, is3, h3, fun σ4 s4 => ⟨G0, H0, G1, G3, e3, B2, o4, s4, h4, ?_⟩⟩
          have back : ∀ {G5 σ5 H5 env5 B5}, SS K b G0 H0 G1 G5 σ5 H5 env5 B5 → SS K b G0 H0 Gm G5 σ5 H5 env5 B5 := fun {G5 σ5 H5 env5 B5} s5 => ⟨s5.toSt, s5.frm, (s.mrk.trans fr1.ex).trans s5.mrk, s5.fresh⟩
          cases o4 with
          | nx env5 B5 => exact fun G5 σ5 H5 s5 => ⟨G5, env5, B5, back s5, s5.mrk, hf⟩
          | ct env5 B5 => exact fun G5 σ5 H5 s5 => ⟨G5, env5, B5, back s5, s5.mrk, hf⟩
          | bk env5 B5 =>
            cases hf
            exact fun G5 σ5 H5 s5 => k G5 σ5 H5 (back s5)
          | rt d5 B5 =>
            cases hf
            exact k
          | ro c5 B5 =>
            cases hf
            exact k
    · refine .inl ⟨z1 (by omega), ?_⟩
      rw [List.drop_eq_nil_of_le (by omega)] at hf
      cases hf
      exact k G2 σ2 H2 s2
theorem pds_forW {iter : Expr} {body : List Stmt} {fi : DI} {g : DG} {gb : DS} (hp : PassesOwn (model X.prog X.w) X.A X.env X.xe) (hc : X.calm = true) (hi : PDIW X b tg iter fi) (hg : PDGSW X b tg g) (hb : PDSs X b body gb) (hs : ∀ x, foldedSetIterable iter X.env x = pure x := by intro _; rfl) :
    PDS X b (.For tg iter body [] pos) (dFor fi g gb) := PS.imp (ps_for hp hc hi hg hb hs) tDS_forW
end
end Dl

/-! DL: enumerate of tuples. -/
namespace Dl
open PySem L2 Evl PyProof.Rows
set_option maxHeartbeats 8000000 in
theorem en1_meets {v : Value} {o : Obj} {Ok : Heap → Prop} (B : Begins v o Ok) :
    Meets (Builtin.«enumerate.__new__» ⟨[.type "enumerate", v], []⟩) (fun _ R s => Ok s.heap ∧
      R (.ok (.ret (.ref (s.heap.push o).objs.size))) { s with heap := (s.heap.push o).push { cls := .type "enumerate", data := .fields #[.none, .bool false, .ref s.heap.objs.size, rawInt 0, .none, .none] } }) :=
  .of_wp fun prog w A R s told => by
    obtain ⟨hp, gens, drawn, tk, os⟩ := s; obtain ⟨ok, told⟩ := told
    have sub_en := sub_enumerate
    have begins : ∀ {A1 : Around} {E1 : Value → Shared → Prop} {Q1 : Value → Shared → Prop}, Q1 (.ref hp.objs.size) ⟨hp.push o, gens, drawn, tk, os⟩ → wpAny (model prog w) A1 (pyIter v) Q1 E1 ⟨hp, gens, drawn, tk, os⟩ := fun q => B.iter prog w _ _ ⟨hp, gens, drawn, tk, os⟩ _ ok q
    wp_walk using begins
    refine wpAny_stack_any (fun _ => wpAny_pure ?_); split
    · rename_i c _ _ _ _ _
      cases (c == Value.type "enumerate") <;> (wp_walk using begins; exact ⟨_, rfl, told⟩)
    · wp_walk using begins
      exact ⟨_, rfl, told⟩
theorem en1_call {prog : Program} {w : World} {A : Around} {E : Value → Shared → Prop} {s : Shared} {v : Value} {o : Obj} {Ok : Heap → Prop} {Q : Value → Shared → Prop} (B : Begins v o Ok) (ok : Ok s.heap)
    (k : ∀ h', IsEnum h' (s.heap.objs.size + 1) s.heap.objs.size 0 .none → h'.get? s.heap.objs.size = some o → (∀ b u, s.heap.get? b = some u → h'.get? b = some u) → Q (.ref (s.heap.objs.size + 1)) { s with heap := h' }) :
    wpAny (model prog w) A (call (.type "enumerate") [v]) Q E s := by
  refine callType_new F.called_enumerate (by decide) (F.typeCall_enumerate_1 _) (F.newCall_enumerate_1 _) (fun obj => F.args_object_init_2 obj _) F.entry_enumerate_new (en1_meets B) ⟨ok, ?_⟩
  have z : (s.heap.push o).objs.size = s.heap.objs.size + 1 := Heap.size_push ..
  show _ ∧ _
  have there := Heap.get?_push_size (s.heap.push o) (o := { cls := .type "enumerate", data := .fields #[.none, .bool false, .ref s.heap.objs.size, rawInt 0, .none, .none] }) rfl
  rw [z] at there ⊢
  exact ⟨⟨_, there, rfl⟩, k _ there (Heap.get?_push_of_some _ (Heap.get?_push_size _ B.free)) fun b u q => Heap.get?_push_of_some _ (Heap.get?_push_of_some _ q)⟩
/-- a tuple's items with their places, each in a new pair -/
def ItE (K : PySem.W.Frag) (a : Addr) : It :=
  ⟨fun i H => ∃ (xs : List V) (x : V), SqT K H a xs ∧ xs[i]? = some x, fun i H v H' => ∃ T x, v = .ref T ∧ H T = none ∧ H' = upd H T (.tup [.int (i : Nat), x]) ∧ ∀ xs, SqT K H a xs → xs[i]? = some x, fun i H => ∃ xs : List V, SqT K H a xs ∧ xs.length ≤ i⟩
theorem turn_en {P : Program} {w : World} {K : PySem.W.Frag} {elts : List Expr} {kk : Nat} {tpos : Pos} (a e it : Addr) (n1 : e ≠ it) (n2 : e ≠ a) (n3 : a ≠ it) :
    Turn P w K (.Tuple elts kk tpos) (ItE K a) [e, it] e (fun i h => (∃ old, IsEnum h e it (0 + (i : Int)) old) ∧ h.IsTupleIter it a i) where
  mem := List.mem_cons_self
  obj := fun i h ⟨⟨old, q⟩, o, ho, _, hd⟩ c hc => by
    rcases List.mem_cons.mp hc with rfl | hc
    · exact ⟨_, q, fun _ z => nomatch z⟩
    · rw [List.mem_singleton.mp hc]
      exact ⟨o, ho, fun v z => by rw [hd] at z; cases z⟩
  keep := fun i h h' ⟨⟨old, q⟩, r⟩ k => ⟨⟨old, k e List.mem_cons_self _ q⟩, r.at fun o z => k it (List.mem_cons_of_mem _ List.mem_cons_self) o z⟩
  item := by
    intro X hP hw hK hc i pins s σ H E I hf st hg
    subst hP hw hK
    obtain ⟨xs, x, hq, hx⟩ := hg
    obtain ⟨its, rv, tup, _⟩ := I.tuple hq
    obtain ⟨u, hu, ru⟩ := rv.get hx
    have W := WalksT.enumFrom (prog := X.prog) (w := X.w) (A := X.A) 0 (Draws.tuple (A := X.A.in1) (I.ok.hd hc) it a n3 its.toArray) e n1 (by simp [n1, n2]) (by simp)
    have small : i < its.toArray.size := by
      rw [List.size_toArray]
      exact (List.getElem?_eq_some_iff.mp hu).1
    refine W.item i s _ E small ⟨st.1, st.2, tup⟩ fun T vals h1 tk ⟨t, y, hy, ev⟩ hT isT mid keep => ⟨.ref T, rfl, W.go elts kk tpos i T _ _ E mid fun h2 st2 keep2 => ?_⟩
    have same : y = u := by
      have z : its.toArray[i]? = some y := hy
      rw [List.getElem?_toArray, hu] at z
      exact (Option.some.inj z).symm
    subst same
    subst ev
    have away := W.apart i T _ mid
    have laid : IsTup h2 T #[.int (0 + (i : Int)) t, y] := let ⟨o, e1, e2⟩ := isT; ⟨o, keep2 T o away e1, e2⟩
    have new : ObjOk X.prog X.w (upd H T (.tup [.int (i : Nat), x])) h2 T (.tup [.int (i : Nat), x]) := ⟨by show 2 ≤ sizeLine; decide, [.int (0 + (i : Int)) t, y], .cons ⟨t, by rw [Int.zero_add]⟩ (.cons ru .nil), laid⟩
    have I1 : Inv X pins σ (upd H T (.tup [.int (i : Nat), x])) { s with heap := h2, toks := tk } := I.turnedNew (fun b o hb q => keep2 b o hb (keep b o hb q)) hf hT new
    refine ⟨.ref T, _, I1, rfl, ⟨T, x, rfl, I.hok.fresh hT, rfl, fun ys hy => by rw [I.tuple_inj hy hq]; exact hx⟩, ⟨st2.1, st2.2.1⟩, fun c hcm => ?_⟩
    rw [upd_ne (fun z => away (by rw [← z]; exact hcm))]
    exact (hf c hcm).1
  done := by
    intro X hP hw hK hc i pins s σ H E I hf st hg
    subst hP hw hK
    obtain ⟨xs, hq, hx⟩ := hg
    obtain ⟨its, rv, tup, _⟩ := I.tuple hq
    obtain ⟨⟨old, q⟩, r⟩ := st
    refine wpAny_pyNext_enum_endD (n := i) (St := fun j h => j = i ∧ h.IsTupleIter it a j ∧ h.IsTuple a its.toArray) (P := fun _ _ => True) (fp := [it, a]) ⟨fun _ _ z => let ⟨o, ho, _⟩ := z.2.1; ⟨o, ho⟩, fun j h h' z k => ⟨z.1, z.2.1.at fun o e => k it (by simp) o e, z.2.2.at fun o e => k a (by simp) o e⟩, fun j s1 Q1 E1 hj z _ => absurd hj (by rw [z.1]; exact Nat.lt_irrefl _), fun s1 Q1 E1 z k => RZ.nextOf_tuple_end (I.ok.hd hc) z.2.1 z.2.2 (Array.getElem?_eq_none (by rw [List.size_toArray, ← rv.length]; exact hx)) k⟩ q ⟨rfl, r, tup⟩ fun h' k => ?_
    exact ⟨rfl, I.turnedL (t' := s.toks) (fun b o hb z => k b o (fun y => hb (by simp [y])) z) hf⟩
  self := fun A i s Q E ⟨⟨_, q⟩, _⟩ k => wpAny_pyIter_enum q k
section
variable {X : Cx} {b : Addr} {pos : Pos}
def iEnS (K : PySem.W.Frag) (ta : TA) : TI := fun σ H R => ta σ H fun vs H1 => ∃ a xs, vs = [.ref a] ∧ ((SqL K H1 a xs ∧ R (Ite K a) H1) ∨ (SqT K H1 a xs ∧ R (ItE K a) H1))
theorem pi_enS {e : Expr} {ta : TA} {p pos tpos : Pos} {elts : List Expr} {kk : Nat} (hg : Gl X "enumerate") (hm : X.mg "enumerate" = none) (ha : PA X [e] ta) (hs : starEach [e] X.env = [(false, eval e X.env)] := by rfl) :
    PI X (.Tuple elts kk tpos) (.Call (.Name "enumerate" p) [e] [] pos) (iEnS X.K ta) := by
  constructor
  intro pins s σ H R I told
  refine Call_ (ld_blt I hg hm boot_enumerate (PyProof.Rows.callWith_type1 (thn (ha.run pos pins s σ H _ I told) fun us s1 ⟨vs, H1, I1, r1, a, xs, ev, told⟩ => ?_) hs rfl))
  subst ev
  rw [Vals.ref1 r1]
  have own : ∀ c ∈ [s1.heap.objs.size + 1, s1.heap.objs.size], FpOk X pins H1 c := fun c hc => by
    have le : s1.heap.objs.size ≤ c := by
      rcases List.mem_cons.mp hc with z | z
      · rw [z]
        exact Nat.le_succ _
      · rw [List.mem_singleton.mp z]
        exact Nat.le_refl _
    exact I1.fpOk le (I1.hok.fresh le)
  rcases told with ⟨hq, k⟩ | ⟨hq, k⟩
  · obtain ⟨its, _, lst, _⟩ := I1.list hq
    refine call_enumerate_list lst.isList fun h' en itr _ keep => wpAny_pyIter_enum en ⟨_, _, _, _, H1, rfl, I1.kept (t' := s1.toks) keep, turn_enum a (s1.heap.objs.size + 1) s1.heap.objs.size, ⟨⟨.none, en⟩, itr, Nat.succ_ne_self _⟩, own, k⟩
  · obtain ⟨its, _, tup, _⟩ := I1.tuple hq
    have lt : a < s1.heap.objs.size := let ⟨_, q, _⟩ := tup; Heap.lt_size q
    refine en1_call (begins_tuple a its.toArray) tup fun h' en itr keep => wpAny_pyIter_enum en ⟨_, _, _, _, H1, rfl, I1.kept (t' := s1.toks) keep, turn_en a (s1.heap.objs.size + 1) s1.heap.objs.size (Nat.succ_ne_self _) (Nat.ne_of_gt (Nat.lt_succ_of_lt lt)) (Nat.ne_of_lt lt), ⟨⟨.none, by rw [Int.zero_add]; exact en⟩, ⟨_, itr, rfl, rfl⟩⟩, own, k⟩
theorem itOk_enT {K : PySem.W.Frag} {G : Hp} {a : Addr} {xs : List V} {ds : List PyData} (h : PlT K G a xs) (hl : IsL K G xs ds) : ItOkW K b G (ItE K a) (enD 0 ds) := fun i G1 H1 B e1 e2 g => by
  have q : SqT K H1 a xs := ((h.mono e1).mono e2).sq
  refine ⟨fun hi => ⟨xs, q, by rw [hl.len]; rw [enD_len] at hi; exact hi⟩, fun d hd => ?_⟩
  rw [enD_get] at hd
  cases h1 : ds[i]? with
  | none => rw [h1] at hd; cases hd
  | some d1 =>
    rw [h1] at hd
    cases hd
    obtain ⟨v, hv, is⟩ := hl.get h1
    refine ⟨⟨xs, v, q, hv⟩, fun x H2 y => ?_⟩
    obtain ⟨T, z, rfl, hT, rfl, y⟩ := y
    have z2 := y xs q
    rw [hv] at z2
    cases z2
    obtain ⟨f1, f2, f3⟩ := pair_frm (K := K) (o := .tup [.int (i : Nat), v]) e2 g hT
    exact ⟨G1, f1, f2, f3, T, _, _, rfl, rfl, .inl (.inl upd_same), .cons (by rw [Nat.zero_add]; exact .int _) (.cons (is.mono e1) .nil)⟩
def iEnum (as : List DAr) : DI := fun env B => (dArgs as env B).bind fun p => match arD p.1 with
  | some [.list ds] => some (enD 0 ds, p.2)
  | some [.tuple ds] => some (enD 0 ds, p.2)
  | _ => none
theorem pdi_enumS {e : Expr} {as : List DAr} {p tpos : Pos} {elts : List Expr} {kk : Nat} (hg : Gl X "enumerate") (hm : X.mg "enumerate" = none) (ha : PDA X b [e] as) (hs : starEach [e] X.env = [(false, eval e X.env)] := by rfl) :
    PDIW X b (.Tuple elts kk tpos) (.Call (.Name "enumerate" p) [e] [] pos) (iEnum as) := PI.imp (pi_enS hg hm ha hs) fun σ H R ⟨G, env, B, ds, B', s, ev, k⟩ => by
  unfold iEnum at ev
  cases h1 : dArgs as env B with
  | none => rw [h1] at ev; cases ev
  | some p =>
    rw [h1, Option.bind_some] at ev
    split at ev
    · rename_i ds1 h2
      cases ev
      refine ⟨G, env, B, p.1, p.2, s, h1, fun vs G1 H1 fr ex bg is => ?_⟩
      have q := arD_is is h2
      cases q with
      | cons i1 r =>
        cases r
        cases i1 with
        | lst ha' hl => exact ⟨_, _, rfl, .inl ⟨sq_of (ex _ _ ha'), k _ G1 H1 fr ex bg (itOk_enum ha' hl)⟩⟩
    · rename_i ds1 h2
      cases ev
      refine ⟨G, env, B, p.1, p.2, s, h1, fun vs G1 H1 fr ex bg is => ?_⟩
      have q := arD_is is h2
      cases q with
      | cons i1 r =>
        cases r
        cases i1 with
        | tup ha' hl => exact ⟨_, _, rfl, .inr ⟨(ha'.mono ex).sq, k _ G1 H1 fr ex bg (itOk_enT ha' hl)⟩⟩
    · cases ev
end
end Dl

/-! DM: own things looked at; one rule for lists, tuples and dicts. -/
namespace Dl
open PySem L2 Evl PyProof.Rows
/-- what holds no thing that could be changed -/
def loneD : PyData → Bool
  | .none => true
  | .bool _ => true
  | .int _ => true
  | .str _ => true
  | _ => false
theorem Is.lone {K : PySem.W.Frag} {G G' : Hp} {v : V} {d : PyData} (h : Is K G v d) (f : loneD d = true) : Is K G' v d := by
  cases h with
  | non => exact .non
  | bl b => exact .bl b
  | int i => exact .int i
  | str x => exact .str x
  | _ => cases f
def dPeek (i : Nat) (f : DE) : DE := fun env B => match env[i]? with
  | some (.own c) => (f (env.set i (.sh c.data)) B).bind fun p => if loneD p.1 = true then some p else none
  | _ => f env B
section
variable {K : PySem.W.Frag} {b : Addr} {G H G' H' : Hp} {σ : L2.St} {env : Env} {B B' : Bg}
theorem St.ss (s : St K b G σ H env B) : SS K b G (fun _ => none) G G σ H env B :=
  ⟨s, ⟨Ex.refl _, fun _ _ h _ => (by cases h), fun _ _ h _ => (by cases h), fun _ ⟨_, _, _, h⟩ => (by cases h)⟩, Ex.refl _, fun _ _ _ _ _ => rfl⟩
def less (p : Addr) (G : Hp) : Hp := fun x => if x = p then none else G x
theorem less_frm {p : Addr} {o : HO} {G1 H1 : Hp} {B1 : Bg} (gp : G p = none) (hb : p ≠ b) (g0 : BagAt b G H B) (f : Frm b (upd G p o) H G1 H1) (e : Ex G1 H1) (g : BagAt b G1 H1 B1) : Frm b G H (less p G1) H1 ∧ Ex (less p G1) H1 ∧ BagAt b (less p G1) H1 B1 := by
  have np : ∀ {x : Addr} {u : HO}, G x = some u → x ≠ p := fun h => ne_of_none h gp
  refine ⟨⟨fun x u h => ?_, f.keep, fun x u h n => ?_, f.cell⟩, fun x u h => ?_, ?_⟩
  · show (if x = p then none else G1 x) = some u
    rw [if_neg (np h)]
    exact f.ex x u (by rw [upd_ne (np h)]; exact h)
  · show (if x = p then none else G1 x) = none
    split
    · rfl
    · rename_i q
      exact f.hide x u h (by rw [upd_ne q]; exact n)
  · have h : (if x = p then none else G1 x) = some u := h
    split at h
    · cases h
    · exact e x u h
  · obtain ⟨g1, c, g2, g3⟩ := g
    obtain ⟨_, c0, z2, z3⟩ := g0
    obtain ⟨x, y, z, q⟩ := f.cell c0 ⟨_, _, _, z2⟩
    rw [g2] at q
    have cc : c = c0 := by
      simp only [bgV, Option.some.injEq, HO.lst.injEq, List.cons.injEq, V.ref.injEq] at q
      exact q.2.2.2.1
    have nc : c ≠ p := by
      rw [cc]
      exact np z3
    refine ⟨?_, c, g2, ?_⟩
    · show (if b = p then none else G1 b) = none
      rw [if_neg hb.symm]
      exact g1
    · show (if c = p then none else G1 c) = _
      rw [if_neg nc]
      exact g3
theorem dPeek_some {i : Nat} {f : DE} {d : PyData} (h : dPeek i f env B = some (d, B')) : (f env B = some (d, B')) ∨ ∃ c, env[i]? = some (.own c) ∧ f (env.set i (.sh c.data)) B = some (d, B') ∧ loneD d = true := by
  unfold dPeek at h
  split at h
  · rename_i c he
    cases h1 : f (env.set i (.sh c.data)) B with
    | none => rw [h1] at h; cases h
    | some p =>
      rw [h1, Option.bind_some] at h
      split at h
      · cases h
        exact .inr ⟨c, he, h1, by assumption⟩
      · cases h
  · exact .inl h
theorem tD_peek {i : Nat} {f : DE} : ∀ σ H Q, tD K b (dPeek i f) σ H Q → tD K b f σ H Q := fun σ H Q ⟨G, env, B, d, B', s, ev, k⟩ => by
  rcases dPeek_some ev with h | ⟨c, he, h, fl⟩
  · exact ⟨G, env, B, d, B', s, h, k⟩
  · obtain ⟨p, o, gp, hb, hp, s'⟩ := s.ss.freeze he
    refine ⟨_, _, B, d, B', s'.toSt, h, fun v G1 H1 fr ex bg is => ?_⟩
    obtain ⟨f1, f2, f3⟩ := less_frm gp hb s.bag fr ex bg
    exact k v _ H1 f1 f2 f3 (is.lone fl)
theorem tDT_peek {i : Nat} {f : DE} : ∀ σ H Q, tDT K b (dPeek i f) σ H Q → tDT K b f σ H Q := fun σ H Q ⟨G, env, B, c, B', s, ev, k⟩ => by
  rcases dPeek_some ev with h | ⟨c1, he, h, fl⟩
  · exact ⟨G, env, B, c, B', s, h, k⟩
  · obtain ⟨p, o, gp, hb, hp, s'⟩ := s.ss.freeze he
    refine ⟨_, _, B, c, B', s'.toSt, h, fun G1 H1 fr ex bg => ?_⟩
    obtain ⟨f1, f2, f3⟩ := less_frm gp hb s.bag fr ex bg
    exact k _ H1 f1 f2 f3
end
section
variable {X : Cx} {b : Addr} {pos p : Pos} {e e1 e2 : Expr} {f f1 f2 : DE} {as : List DAr}
theorem pd_peek (i : Nat) (h : PD X b e f) : PD X b e (dPeek i f) := PE.imp h tD_peek
theorem pdt_peek (i : Nat) (h : PDT X b e f) : PDT X b e (dPeek i f) := PT.imp h tDT_peek
theorem pe_or {t1 t2 : TE} (h1 : PE X e t1) (h2 : PE X e t2) : PE X e (fun σ H Q => t1 σ H Q ∨ t2 σ H Q) := ⟨fun pins s σ H Q I h => h.elim (h1.run pins s σ H Q I) (h2.run pins s σ H Q I)⟩
theorem pt_or {t1 t2 : TT} (h1 : PT X e t1) (h2 : PT X e t2) : PT X e (fun σ H Q => t1 σ H Q ∨ t2 σ H Q) := ⟨fun pins s σ H Q I h => h.elim (h1.run pins s σ H Q I) (h2.run pins s σ H Q I)⟩
/-- one of two operations, by what there is -/
def gOr (g1 g2 : PyData → PyData → Option PyData) : PyData → PyData → Option PyData := fun a c => (g1 a c).or (g2 a c)
theorem dBin_or {g1 g2 : PyData → PyData → Option PyData} {env : Env} {B B' : Bg} {d : PyData} (h : dBin (gOr g1 g2) f1 f2 env B = some (d, B')) : dBin g1 f1 f2 env B = some (d, B') ∨ dBin g2 f1 f2 env B = some (d, B') := by
  obtain ⟨a, B1, c, q1, q2, q3⟩ := dBin_some h
  have mk : ∀ g : PyData → PyData → Option PyData, g a c = some d → dBin g f1 f2 env B = some (d, B') := fun g e => by
    unfold dBin
    rw [q1, Option.bind_some]
    dsimp only
    rw [q2, Option.bind_some]
    dsimp only
    rw [e]
    all_goals rfl
  unfold gOr at q3
  cases h1 : g1 a c with
  | some d1 =>
    rw [h1, Option.some_or] at q3
    cases q3
    exact .inl (mk g1 h1)
  | none =>
    rw [h1, Option.none_or] at q3
    exact .inr (mk g2 q3)
theorem pd_orB {g1 g2 : PyData → PyData → Option PyData} (h1 : PD X b e (dBin g1 f1 f2)) (h2 : PD X b e (dBin g2 f1 f2)) : PD X b e (dBin (gOr g1 g2) f1 f2) := PE.imp (pe_or h1 h2) fun σ H Q ⟨G, env, B, d, B', s, ev, k⟩ => by
  rcases dBin_or ev with h | h
  · exact .inl ⟨G, env, B, d, B', s, h, k⟩
  · exact .inr ⟨G, env, B, d, B', s, h, k⟩
theorem pdt_orB {g1 g2 : PyData → PyData → Option PyData} (h1 : PDT X b e (dBin g1 f1 f2)) (h2 : PDT X b e (dBin g2 f1 f2)) : PDT X b e (dBin (gOr g1 g2) f1 f2) := PT.imp (pt_or h1 h2) fun σ H Q ⟨G, env, B, d, B', s, ev, k⟩ => by
  rcases dBin_or ev with h | h
  · exact .inl ⟨G, env, B, d, B', s, h, k⟩
  · exact .inr ⟨G, env, B, d, B', s, h, k⟩
/-- x[k] of a list, a tuple, a dict -/
def gIxA : PyData → PyData → Option PyData := gOr gIx gDGet
theorem pd_ixA (hu : X.A.units + 1 < cLine) (h1 : PD X b e1 f1) (h2 : PD X b e2 f2) (hp : PlainIx e2 := by exact fun _ _ => rfl) (hs : NoSl e2 := by exact fun _ _ => rfl) : PD X b (.Subscript e1 e2 pos) (dBin gIxA f1 f2) := pd_orB (pd_ix ix_D r_ix h1 h2 hp) (pd_dget hu h1 h2 hs)
/-- k in a list, a tuple, a dict -/
def gInA : PyData → PyData → Option PyData := gOr gIn gDIn
def gNotInA : PyData → PyData → Option PyData := gOr gNotIn gDNotIn
theorem pd_inA (hu : X.A.units + 1 < cLine) (h1 : PD X b e1 f1) (h2 : PD X b e2 f2) (hm : behindInMarks .In e2 = false := by first | exact nomark _ | rfl) : PD X b (.Compare e1 [.In] [e2] pos) (dBin gInA f1 f2) := pd_orB (pd_cmp op_in_seq r_in h1 h2 hm) (pd_din hu h1 h2 hm)
theorem pd_notinA (hu : X.A.units + 1 < cLine) (h1 : PD X b e1 f1) (h2 : PD X b e2 f2) (hm : behindInMarks .NotIn e2 = false := by first | exact nomark _ | rfl) : PD X b (.Compare e1 [.NotIn] [e2] pos) (dBin gNotInA f1 f2) := pd_orB (pd_cmp op_notIn_seq r_notin h1 h2 hm) (pd_dnotin hu h1 h2 hm)
theorem pdt_din (hu : X.A.units + 1 < cLine) (h1 : PD X b e1 f1) (h2 : PD X b e2 f2) (hm : behindInMarks .In e2 = false := by first | exact nomark _ | rfl) : PDT X b (.Compare e1 [.In] [e2] pos) (dBin gDIn f1 f2) := PT.imp (pt_cmp (pc_din hu h1 h2) hm) (tDT_test fun σ H Q h => by
  have z := tD_in (neg := false) (by rw [if_neg Bool.false_ne_true]; exact h)
  simp only [if_neg Bool.false_ne_true] at z
  exact z)
theorem pdt_dnotin (hu : X.A.units + 1 < cLine) (h1 : PD X b e1 f1) (h2 : PD X b e2 f2) (hm : behindInMarks .NotIn e2 = false := by first | exact nomark _ | rfl) : PDT X b (.Compare e1 [.NotIn] [e2] pos) (dBin gDNotIn f1 f2) := PT.imp (pt_cmp (pc_dnotin hu h1 h2) hm) (tDT_test fun σ H Q h => by
  have z := tD_in (neg := true) (by rw [if_pos rfl]; exact h)
  simp only [if_pos] at z
  exact z)
theorem pdt_inA (hu : X.A.units + 1 < cLine) (h1 : PD X b e1 f1) (h2 : PD X b e2 f2) (hm : behindInMarks .In e2 = false := by first | exact nomark _ | rfl) : PDT X b (.Compare e1 [.In] [e2] pos) (dBin gInA f1 f2) := pdt_orB (pdt_cmp op_in_seq r_in h1 h2 hm) (pdt_din hu h1 h2 hm)
theorem pdt_notinA (hu : X.A.units + 1 < cLine) (h1 : PD X b e1 f1) (h2 : PD X b e2 f2) (hm : behindInMarks .NotIn e2 = false := by first | exact nomark _ | rfl) : PDT X b (.Compare e1 [.NotIn] [e2] pos) (dBin gNotInA f1 f2) := pdt_orB (pdt_cmp op_notIn_seq r_notin h1 h2 hm) (pdt_dnotin hu h1 h2 hm)
/-! ### len of a dict too; sorted, list of a dict -/
def gLenD : List PyData → Option PyData
  | [.dict ds] => some (.int ds.length)
  | _ => none
theorem IsD.len {K : PySem.W.Frag} {G : Hp} : ∀ {xs : List (Key × V)} {ds : List (PyData × PyData)}, IsD K G xs ds → xs.length = ds.length
  | _, _, .nil => rfl
  | _, _, .cons _ r => by rw [List.length_cons, List.length_cons, IsD.len r]
theorem r_lenD {K : PySem.W.Frag} : RLD K (fun xs H Q => ∃ a kvs, xs = [V.ref a] ∧ H a = some (.dK kvs) ∧ Q (.int kvs.length) H) gLenD := fun b G H xs as d B Q ex bg is eg k => by
  unfold gLenD at eg
  split at eg
  · cases eg
    cases is with
    | cons h r =>
      cases r
      cases h with
      | dct ha hd => exact ⟨_, _, rfl, ex _ _ ha, by rw [hd.len]; exact k.val ex bg (.int _)⟩
  · cases eg
def gOr1 (g1 g2 : List PyData → Option PyData) : List PyData → Option PyData := fun as => (g1 as).or (g2 as)
theorem dCB_or {g1 g2 : List PyData → Option PyData} {env : Env} {B B' : Bg} {d : PyData} (h : dCB (gOr1 g1 g2) as env B = some (d, B')) : dCB g1 as env B = some (d, B') ∨ dCB g2 as env B = some (d, B') := by
  obtain ⟨xs, ds, q1, q2, q3⟩ := dCB_some h
  have mk : ∀ g : List PyData → Option PyData, g ds = some d → dCB g as env B = some (d, B') := fun g e => by
    unfold dCB
    rw [q1, Option.bind_some]
    dsimp only
    rw [q2, Option.bind_some, e]
    all_goals rfl
  unfold gOr1 at q3
  cases h1 : g1 ds with
  | some d1 =>
    rw [h1, Option.some_or] at q3
    cases q3
    exact .inl (mk g1 h1)
  | none =>
    rw [h1, Option.none_or] at q3
    exact .inr (mk g2 q3)
theorem pd_or1 {g1 g2 : List PyData → Option PyData} (h1 : PD X b e (dCB g1 as)) (h2 : PD X b e (dCB g2 as)) : PD X b e (dCB (gOr1 g1 g2) as) := PE.imp (pe_or h1 h2) fun σ H Q ⟨G, env, B, d, B', s, ev, k⟩ => by
  rcases dCB_or ev with h | h
  · exact .inl ⟨G, env, B, d, B', s, h, k⟩
  · exact .inr ⟨G, env, B, d, B', s, h, k⟩
def gLenS : List PyData → Option PyData
  | [.str z] => if z.length ≤ 100000 then some (.int z.length) else none
  | _ => none
theorem r_lenS {K : PySem.W.Frag} : RLD K (fun xs H Q => ∃ z, xs = [V.str z] ∧ z.length ≤ sizeLine ∧ Q (.int z.length) H) gLenS := fun b G H xs as d B Q ex bg is eg k => by
  unfold gLenS at eg
  split at eg
  · split at eg
    · cases eg
      cases is with
      | cons h r =>
        cases r
        cases h
        exact ⟨_, rfl, by rw [sizeLine_eq]; omega, k.val ex bg (.int _)⟩
    · cases eg
  · cases eg
def gLenA : List PyData → Option PyData := gOr1 (gOr1 gLen gLenD) gLenS
theorem pd_lenA (hm : X.mg "len" = none) (hg : Gl X "len") (ha : PDA X b [e] as) (he : starEach [e] X.env = (false, eval e X.env) :: starEach [] X.env := by rfl) : PD X b (.Call (.Name "len" p) [e] [] pos) (dCB gLenA as) :=
  pd_or1 (pd_or1 (pd_len hm hg ha he) (pd_cb call_lenD r_lenD hg hm PySem.boot_len ha (by decide) (by decide) he (by rfl))) (pd_cb call_len_str r_lenS hg hm PySem.boot_len ha (by decide) (by decide) he (by rfl))
/-- the keys of a dict, all texts; all ints -/
def strKs : List (PyData × PyData) → Option (List Str)
  | [] => some []
  | (.str k, _) :: r => (strKs r).map fun l => k :: l
  | _ => none
def intKs : List (PyData × PyData) → Option (List Int)
  | [] => some []
  | (.int k, _) :: r => (intKs r).map fun l => k :: l
  | _ => none
theorem IsD.strKs {K : PySem.W.Frag} {G : Hp} : ∀ {xs : List (Key × V)} {ds : List (PyData × PyData)} {ks : List Str}, IsD K G xs ds → Dl.strKs ds = some ks → xs.map (·.1) = ks.map Sum.inr
  | _, _, _, .nil, e => by
    cases e
    rfl
  | _, _, _, .cons (k := k) (ds := ds) h r, e => by
    cases k with
    | inl i => cases e
    | inr s =>
      have e : (Dl.strKs ds).map (fun l => s :: l) = some _ := e
      cases q : Dl.strKs ds with
      | none => rw [q] at e; cases e
      | some l =>
        rw [q] at e
        cases e
        rw [List.map_cons, List.map_cons, IsD.strKs r q]
theorem IsD.intKs {K : PySem.W.Frag} {G : Hp} : ∀ {xs : List (Key × V)} {ds : List (PyData × PyData)} {ks : List Int}, IsD K G xs ds → Dl.intKs ds = some ks → xs.map (·.1) = ks.map Sum.inl
  | _, _, _, .nil, e => by
    cases e
    rfl
  | _, _, _, .cons (k := k) (ds := ds) h r, e => by
    cases k with
    | inr i => cases e
    | inl s =>
      have e : (Dl.intKs ds).map (fun l => s :: l) = some _ := e
      cases q : Dl.intKs ds with
      | none => rw [q] at e; cases e
      | some l =>
        rw [q] at e
        cases e
        rw [List.map_cons, List.map_cons, IsD.intKs r q]
/-- list(d): the keys as they stand -/
def gListD : List PyData → Option PyData
  | [.dict ds] => some (.list (ds.map (·.1)))
  | _ => none
theorem IsD.keys {K : PySem.W.Frag} {G : Hp} : ∀ {xs : List (Key × V)} {ds : List (PyData × PyData)}, IsD K G xs ds → IsL K G (xs.map fun kv => kV kv.1) (ds.map (·.1))
  | _, _, .nil => .nil
  | _, _, .cons h r => .cons (Is.ofKey _) (IsD.keys r)
theorem r_listD {K : PySem.W.Frag} : RLD K (fun xs H Q => ∃ (a : Addr) (kvs : List (Key × V)), xs = [.ref a] ∧ Rd H a (.dK kvs) ∧ ∀ p, H p = none → Q (.ref p) (upd H p (.lst (kvs.map fun kv => kV kv.1)))) gListD := fun b G H xs as d B Q ex bg is eg k => by
  unfold gListD at eg
  split at eg
  · cases eg
    cases is with
    | cons h r =>
      cases r
      cases h with
      | dct ha hd => exact ⟨_, _, rfl, .inl (ex _ _ ha), fun p hp => k.lst ex bg hp hd.keys⟩
  · cases eg
def gListA : List PyData → Option PyData := gOr1 gListOf gListD
theorem pd_listA (hc : X.calm = true) (hm : X.mg "list" = none) (hg : Gl X "list") (ha : PDA X b [e] as) (he : starEach [e] X.env = (false, eval e X.env) :: starEach [] X.env := by rfl) : PD X b (.Call (.Name "list" p) [e] [] pos) (dCB gListA as) :=
  pd_or1 (pd_listOf hm hg ha he) (pd_ct (call_listD hc) r_listD hg hm (by decide +kernel) ha (by decide) (by decide) he (by rfl))
end
end Dl

/-! DN: new things as expressions and returned; several names stored at once. -/
namespace Dl
open PySem L2 Evl PyProof.Rows
section
variable {X : Cx} {b : Addr} {pos p : Pos} {e e1 e2 e3 tg : Expr} {f f1 f2 f3 : DE} {fo fo1 fo2 : DEO} {as : List DAr} {es : List Expr}
/-! ### return -/
def dRetO (f : DEO) : DS := fun env B => (f env B).map fun p => .ro p.1 p.2
theorem pds_retO (h : PDN X b e fo) : PDS X b (.Return (some e) pos) (dRetO fo) := PS.imp (ps_ret h) fun D σ H ⟨G0, H0, Gm, G, env, B, o, s, ev, k⟩ => by
  unfold dRetO at ev
  cases h1 : fo env B with
  | none => rw [h1] at ev; cases ev
  | some p =>
    rw [h1] at ev
    cases ev
    exact ⟨G, env, B, p.1, p.2, s.toSt, h1, fun q o G1 H1 fr ex bg hp h2 gp hb oc => k q o G1 H1 (s.frm.trans fr bg.1) ex bg (s.frm.back hb hp) h2 gp hb oc⟩
/-- return of a name -/
def dRetV (i : Nat) : DS := fun env B => match env[i]? with
  | some (.own c) => some (.ro c B)
  | some (.sh d) => some (.rt d B)
  | _ => none
theorem pds_retV (i : Nat) {x : Str} {px : Pos} (hx : PE X (.Name x px) (tVar i)) : PDS X b (.Return (some (.Name x px)) pos) (dRetV i) := PS.imp (ps_ret hx) fun D σ H ⟨G0, H0, Gm, G, env, B, o, s, ev, k⟩ => by
  unfold dRetV at ev
  split at ev
  · rename_i c he
    cases ev
    obtain ⟨q, o, h1, h2, h3, h4, h5⟩ := s.sl i _ he
    exact ⟨.ref q, h1, k q o G H s.frm s.ex s.bag (s.fresh i c q he h1) h4 h2 h3 h5⟩
  · rename_i d he
    cases ev
    obtain ⟨v, h1, h2⟩ := s.sl i _ he
    exact ⟨v, h1, k v G H s.frm s.ex s.bag h2⟩
  · cases ev
/-! ### displays, comprehensions, sorted, either way -/
def dNewD : DEO := fun _ B => some (.d [], B)
theorem pdn_newD : PDN X b (.Dict [] [] pos) dNewD := PE.imp pe_dnewK fun σ H Q ⟨G, env, B, c, B', s, ev, k⟩ => by
  cases ev
  exact fun q hq => k.new s.ex s.bag hq ⟨[], rfl, rfl, .nil⟩
def dLstO (as : List DAr) : DEO := fun env B => (dArgs as env B).bind fun p => (arD p.1).bind fun ds => if ds.length ≤ 100000 then some (.l ds, p.2) else none
theorem pdn_lst (h : PDA X b es as) : PDN X b (.List es pos) (dLstO as) := PE.imp (pe_lst h) fun σ H Q ⟨G, env, B, c, B', s, ev, k⟩ => by
  unfold dLstO at ev
  cases h1 : dArgs as env B with
  | none => rw [h1] at ev; cases ev
  | some q =>
    rw [h1, Option.bind_some] at ev
    cases h2 : arD q.1 with
    | none => rw [h2] at ev; cases ev
    | some ds =>
      rw [h2, Option.bind_some] at ev
      split at ev
      · cases ev
        refine ⟨G, env, B, q.1, q.2, s, h1, fun vs G1 H1 fr ex bg is => ?_⟩
        have il := arD_is is h2
        exact ⟨sz_of (by rw [il.len]; assumption), fun a ha => (k.go fr).new ex bg ha ⟨_, rfl, il⟩⟩
      · cases ev
theorem pdn_lc {elt iter : Expr} {ifs : List Expr} {scope : Scope} (own : List (Str × Nat)) {fi : DI} {g : DG} {js : List Nat} {c f : DE} (hc : X.calm = true) (hN : X.N.Nodup) (hi : PDI X b tg iter fi) (ok : BlkOk X.N X.env.scope scope own)
    (hg : ∀ (s : Shared) (H : Hp) (C : Addr) (cl : List (Str × Addr)) (fp : List Addr), PDG (X.blk s H scope (compEnvC scope cl C X.env) fp) b tg g js)
    (ht : ∀ (s : Shared) (H : Hp) (C : Addr) (cl : List (Str × Addr)) (fp : List Addr), PDTs (X.blk s H scope (compEnvC scope cl C X.env) fp) b ifs c)
    (he : ∀ (s : Shared) (H : Hp) (C : Addr) (cl : List (Str × Addr)) (fp : List Addr), PD (X.blk s H scope (compEnvC scope cl C X.env) fp) b elt f)
    (hj : ∀ j ∈ js, j ∈ own.map (·.2) := by decide) (hs : ∀ x, foldedSetIterable iter X.env x = pure x := by intro _; rfl) :
    PDN X b (.ListComp elt [⟨tg, iter, ifs, 0⟩] scope pos) (dLcO fi g c f (own.map (·.2))) := PE.imp (pe_lc (g := tDG X.K b g js) (tt := tDT X.K b c) (te := tD X.K b f) hc hN hi ok hg ht he hs) (tDN_lc hj)
theorem pdn_lcW {elt iter : Expr} {ifs : List Expr} {scope : Scope} (own : List (Str × Nat)) {fi : DI} {g : DG} {js : List Nat} {c f : DE} (hc : X.calm = true) (hN : X.N.Nodup) (hi : PDIW X b tg iter fi) (ok : BlkOk X.N X.env.scope scope own)
    (hg : ∀ (s : Shared) (H : Hp) (C : Addr) (cl : List (Str × Addr)) (fp : List Addr), PDGW (X.blk s H scope (compEnvC scope cl C X.env) fp) b tg g js)
    (ht : ∀ (s : Shared) (H : Hp) (C : Addr) (cl : List (Str × Addr)) (fp : List Addr), PDTs (X.blk s H scope (compEnvC scope cl C X.env) fp) b ifs c)
    (he : ∀ (s : Shared) (H : Hp) (C : Addr) (cl : List (Str × Addr)) (fp : List Addr), PD (X.blk s H scope (compEnvC scope cl C X.env) fp) b elt f)
    (hj : ∀ j ∈ js, j ∈ own.map (·.2) := by decide) (hs : ∀ x, foldedSetIterable iter X.env x = pure x := by intro _; rfl) :
    PDN X b (.ListComp elt [⟨tg, iter, ifs, 0⟩] scope pos) (dLcO fi g c f (own.map (·.2))) := PE.imp (pe_lc (g := tDGW X.K b g js) (tt := tDT X.K b c) (te := tD X.K b f) hc hN hi ok hg ht he hs) (tDN_lcW hj)
theorem sort_told {K : PySem.W.Frag} {G H : Hp} {a : Addr} {vs : List V} {ds : List PyData} {Q : VK} (ex : Ex G H) (ha : G a = some (.lst vs)) (hl : IsL K G vs ds) (hz : ds.length ≤ 100000) (ok : sortOk ds = true)
    (k : ∀ p ws, H p = none → IsL K G ws (ds.mergeSort leD) → Q (.ref p) (upd H p (.lst ws))) : rSortD K [.ref a] H Q := by
  have len := hl.len
  have lay : ∀ d ∈ ds, d.canLay0 = true := fun d hd => by
    have z := ok
    unfold sortOk at z
    simp only [Bool.and_eq_true, List.all_eq_true] at z
    exact (z.2 d hd).1
  refine ⟨a, vs.zip ds, rfl, by rw [zip_fst len]; exact ex _ _ ha, fun q hq => ?_, by rw [zip_snd len]; exact ok, by rw [List.length_zip, len]; omega, fun p hp => ?_⟩
  · have m : q.2 ∈ ds := by
      rw [← zip_snd len]
      exact List.mem_map.mpr ⟨q, hq, rfl⟩
    exact (hl.zip q hq).dp ex (lay _ m)
  · have e : (ds.mergeSort leD) = ((vs.zip ds).mergeSort (PySem.W.dataLe false fun q : V × PyData => q.2)).map (·.2) := by
      rw [List.map_mergeSort (r := PySem.W.dataLe false fun q : V × PyData => q.2) (s := leD) (f := fun q : V × PyData => q.2) (l := vs.zip ds) (fun _ _ _ _ => rfl), zip_snd len]
    refine k p _ hp ?_
    rw [e]
    exact IsL.of_pairs fun q hq => hl.zip q ((List.mergeSort_perm _ _).mem_iff.mp hq)
def oSorted : List PyData → Option OC
  | [.list ds] => if ds.length ≤ 100000 && sortOk ds then some (.l (ds.mergeSort leD)) else none
  | _ => none
theorem ro_sorted {K : PySem.W.Frag} : RLO K (rSortD K) oSorted := fun b G H xs as d B Q ex bg is eg k => by
  unfold oSorted at eg
  split at eg
  · rename_i ds
    split at eg
    · rename_i hh
      rw [Bool.and_eq_true, decide_eq_true_eq] at hh
      cases eg
      cases is with
      | cons hd r =>
        cases r
        cases hd with
        | lst ha hl => exact sort_told ex ha hl hh.1 hh.2 fun p ws hp iw => k.new ex bg hp ⟨_, rfl, iw⟩
    · cases eg
  · cases eg
theorem pdn_sorted {k : Nat} (room : Room k X.A) (hm : X.mg "sorted" = none) (hg : Gl X "sorted") (ha : PDA X b [e] as) (he : starEach [e] X.env = (false, eval e X.env) :: starEach [] X.env := by rfl) : PDN X b (.Call (.Name "sorted" p) [e] [] pos) (dCBO oSorted as) :=
  pdo_cb (call_sortedD room) ro_sorted hg hm (by decide +kernel) ha (by decide) (by decide) he (by rfl)
/-- either way, a new thing -/
def dIfO (c : DE) (f1 f2 : DEO) : DEO := fun env B => (c env B).bind fun p => match p.1 with
  | .bool true => f1 env p.2
  | .bool false => f2 env p.2
  | _ => none
theorem pdn_if (h1 : PDT X b e1 f1) (h2 : PDN X b e2 fo1) (h3 : PDN X b e3 fo2) : PDN X b (.IfExp e1 e2 e3 pos) (dIfO f1 fo1 fo2) := PE.imp (pe_ifExp h1 h2 h3) fun σ H Q ⟨G, env, B, d, B', s, ev, k⟩ => by
  unfold dIfO at ev
  cases q1 : f1 env B with
  | none => rw [q1] at ev; cases ev
  | some q =>
    obtain ⟨a, B1⟩ := q
    rw [q1, Option.bind_some] at ev
    dsimp only at ev
    split at ev
    · exact ⟨G, env, B, true, B1, s, q1, fun G1 H1 fr ex bg => iteT ⟨G1, env, B1, d, B', s.step fr ex bg, ev, k.go fr⟩⟩
    · exact ⟨G, env, B, false, B1, s, q1, fun G1 H1 fr ex bg => iteF ⟨G1, env, B1, d, B', s.step fr ex bg, ev, k.go fr⟩⟩
    · cases ev
/-! ### a datum or a new thing, for stores of several names at once -/
abbrev DX := Env → Bg → Option (Sl × Bg)
def SvAt (K : PySem.W.Frag) (b : Addr) (G H : Hp) (v : V) : Sl → Prop
  | .sh d => Is K G v d
  | .own c => ∃ p o, v = .ref p ∧ G p = none ∧ p ≠ b ∧ H p = some o ∧ OcOk K G c o
  | _ => False
def FrAt (H : Hp) (v : V) : Sl → Prop
  | .own _ => ∀ p, v = .ref p → H p = none
  | _ => True
theorem SvAt.step {K : PySem.W.Frag} {b : Addr} {G H G' H' : Hp} {v : V} (f : Frm b G H G' H') : ∀ {s : Sl}, SvAt K b G H v s → SvAt K b G' H' v s
  | .sh _, h => Is.mono f.ex h
  | .own _, ⟨p, o, h1, h2, h3, h4, h5⟩ => ⟨p, o, h1, f.hide p o h4 h2, h3, f.keep p o h4 h3, h5.mono f.ex⟩
  | .no, h => h
  | .bag, h => h
def PostX (K : PySem.W.Frag) (b : Addr) (G H : Hp) (s : Sl) (B' : Bg) (Q : VK) : Prop := ∀ v G' H', Frm b G H G' H' → Ex G' H' → BagAt b G' H' B' → SvAt K b G' H' v s → FrAt H v s → Q v H'
def tDX (K : PySem.W.Frag) (b : Addr) (f : DX) : TE := fun σ H Q => ∃ G env B c B', St K b G σ H env B ∧ f env B = some (c, B') ∧ PostX K b G H c B' Q
def PDX (X : Cx) (b : Addr) (e : Expr) (f : DX) : Prop := PE X e (tDX X.K b f)
def xD (f : DE) : DX := fun env B => (f env B).map fun p => (.sh p.1, p.2)
def xO (f : DEO) : DX := fun env B => (f env B).map fun p => (.own p.1, p.2)
theorem pdx_d (h : PD X b e f) : PDX X b e (xD f) := PE.imp h fun σ H Q ⟨G, env, B, d, B', s, ev, k⟩ => by
  unfold xD at ev
  cases h1 : f env B with
  | none => rw [h1] at ev; cases ev
  | some q =>
    rw [h1] at ev
    cases ev
    exact ⟨G, env, B, q.1, q.2, s, h1, fun v G1 H1 fr ex bg is => k v G1 H1 fr ex bg is True.intro⟩
theorem pdx_o (h : PDN X b e fo) : PDX X b e (xO fo) := PE.imp h fun σ H Q ⟨G, env, B, d, B', s, ev, k⟩ => by
  unfold xO at ev
  cases h1 : fo env B with
  | none => rw [h1] at ev; cases ev
  | some q =>
    rw [h1] at ev
    cases ev
    exact ⟨G, env, B, q.1, q.2, s, h1, fun p o G1 H1 fr ex bg hp h2 gp hb oc => k _ G1 H1 fr ex bg ⟨p, o, rfl, gp, hb, h2, oc⟩ fun r e => by cases e; exact hp⟩
/-- no other place holds it -/
def Away (σ : L2.St) (env : Env) (v : V) : Sl → Prop
  | .own _ => ∀ p, v = .ref p → ∀ (j : Nat) (es : OC), env[j]? = some (.own es) → σ[j]? ≠ some (some (.ref p))
  | _ => True
theorem SS.away {K : PySem.W.Frag} {G0 H0 Gm G H : Hp} {σ : L2.St} {env : Env} {B : Bg} {v : V} {s : Sl} (x : SS K b G0 H0 Gm G σ H env B) (h : FrAt H v s) : Away σ env v s := by
  cases s with
  | own c =>
    intro p e j es e1 e2
    obtain ⟨r, zs, z1, z2, z3, z4, z5⟩ := x.sl j _ e1
    rw [e2] at z1
    cases z1
    rw [h p e] at z4
    cases z4
  | _ => exact True.intro
theorem SS.putX {K : PySem.W.Frag} {G0 H0 Gm G H : Hp} {σ : L2.St} {env : Env} {B : Bg} {i : Nat} {v : V} {s : Sl} (x : SS K b G0 H0 Gm G σ H env B) (h : SvAt K b G H v s) (f : FrAt H0 v s) (a : Away σ env v s) : SS K b G0 H0 Gm G (σ.set i (some v)) H (env.set i s) B := by
  cases s with
  | sh d => exact x.put h
  | own c =>
    obtain ⟨p, o, rfl, h2, h3, h4, h5⟩ := h
    exact x.putOwn h4 h2 (f p rfl) h3 h5 (a p rfl)
  | no => exact h.elim
  | bag => exact h.elim
theorem FrAt.back {K : PySem.W.Frag} {G H G' H' G1 H1 : Hp} {v : V} {s : Sl} (f : Frm b G H G' H') (x : SvAt K b G1 H1 v s) (h : FrAt H' v s) : FrAt H v s := by
  cases s with
  | own c =>
    intro p e
    obtain ⟨q, o, e2, _, hb, _⟩ := x
    have pq : V.ref p = V.ref q := e.symm.trans e2
    cases pq
    exact f.back hb (h p e)
  | _ => exact True.intro
/-- put beside what was put ahead -/
theorem Away.set {K : PySem.W.Frag} {G H : Hp} {σ : L2.St} {env : Env} {v w : V} {s t : Sl} {i : Nat} (a : Away σ env w t) (hs : SvAt K b G H v s) (hw : FrAt H w t) : Away (σ.set i (some v)) (env.set i s) w t := by
  cases t with
  | own c =>
    intro p e j es e1 e2
    rw [List.getElem?_set] at e1 e2
    by_cases q : i = j
    · rw [if_pos q] at e1 e2
      split at e1
      · cases e1
        obtain ⟨r, o, z1, _, _, z4, _⟩ := hs
        split at e2
        · cases e2
          cases z1
          rw [hw p e] at z4
          cases z4
        · cases e2
      · cases e1
    · rw [if_neg q] at e1 e2
      exact a p e j es e1 e2
  | _ => exact True.intro
def dParX (i j : Nat) (f1 f2 : DX) : DS := fun env B => (f1 env B).bind fun p => (f2 env p.2).bind fun q => some (.nx ((env.set i p.1).set j q.1) q.2)
theorem pds_parX (i j : Nat) {x y : Str} {px py pt : Pos} {kt k2 pt2} {f1 f2 : DX} (h : PA X [e1, e2] (tCons (tDX X.K b f1) (tCons (tDX X.K b f2) tNil)) → PS X (.Assign [.Tuple [.Name x px, .Name y py] kt pt] (.Tuple [e1, e2] k2 pt2) pos) (tPar i j (tCons (tDX X.K b f1) (tCons (tDX X.K b f2) tNil))))
    (h1 : PDX X b e1 f1) (h2 : PDX X b e2 f2) (hs : starEach [e1, e2] X.env = (false, eval e1 X.env) :: starEach [e2] X.env := by rfl) (hs2 : starEach [e2] X.env = (false, eval e2 X.env) :: starEach [] X.env := by rfl) :
    PDS X b (.Assign [.Tuple [.Name x px, .Name y py] kt pt] (.Tuple [e1, e2] k2 pt2) pos) (dParX i j f1 f2) := PS.imp (h (pa_cons h1 (pa_cons h2 pa_nil hs2) hs)) fun D σ H ⟨G0, H0, Gm, G, env, B, o, s, ev, k⟩ => by
  unfold dParX at ev
  cases e1 : f1 env B with
  | none => rw [e1] at ev; cases ev
  | some p =>
    obtain ⟨a, B1⟩ := p
    rw [e1, Option.bind_some] at ev
    dsimp only at ev
    cases e2 : f2 env B1 with
    | none => rw [e2] at ev; cases ev
    | some q =>
      obtain ⟨a2, B2⟩ := q
      rw [e2, Option.bind_some] at ev
      cases ev
      refine ⟨G, env, B, a, B1, s.toSt, e1, fun v G1 H1 fr1 ex1 bg1 v1 n1 => ?_⟩
      refine ⟨G1, env, B1, a2, B2, s.toSt.step fr1 ex1 bg1, e2, fun w G2 H2 fr2 ex2 bg2 v2 n2 => ?_⟩
      have s1 := s.step fr1 ex1 bg1
      have s2 := s1.step fr2 ex2 bg2
      exact ⟨v, w, rfl, k G2 _ H2 ((s2.putX (v1.step fr2) (FrAt.back s.frm v1 n1) (s.away n1)).putX v2 (FrAt.back s1.frm v2 n2) (Away.set (s1.away n2) v1 n2))⟩
def dParX3 (i j l : Nat) (f1 f2 f3 : DX) : DS := fun env B => (f1 env B).bind fun p => (f2 env p.2).bind fun q => (f3 env q.2).bind fun r => some (.nx (((env.set i p.1).set j q.1).set l r.1) r.2)
theorem pds_parX3 (i j l : Nat) {x y z : Str} {px py pz pt : Pos} {kt k2 pt2} {f1 f2 f3 : DX} (h : PA X [e1, e2, e3] (tCons (tDX X.K b f1) (tCons (tDX X.K b f2) (tCons (tDX X.K b f3) tNil))) → PS X (.Assign [.Tuple [.Name x px, .Name y py, .Name z pz] kt pt] (.Tuple [e1, e2, e3] k2 pt2) pos) (tPar3 i j l (tCons (tDX X.K b f1) (tCons (tDX X.K b f2) (tCons (tDX X.K b f3) tNil)))))
    (h1 : PDX X b e1 f1) (h2 : PDX X b e2 f2) (h3 : PDX X b e3 f3) (hs : starEach [e1, e2, e3] X.env = (false, eval e1 X.env) :: starEach [e2, e3] X.env := by rfl) (hs2 : starEach [e2, e3] X.env = (false, eval e2 X.env) :: starEach [e3] X.env := by rfl) (hs3 : starEach [e3] X.env = (false, eval e3 X.env) :: starEach [] X.env := by rfl) :
    PDS X b (.Assign [.Tuple [.Name x px, .Name y py, .Name z pz] kt pt] (.Tuple [e1, e2, e3] k2 pt2) pos) (dParX3 i j l f1 f2 f3) := PS.imp (h (pa_cons h1 (pa_cons h2 (pa_cons h3 pa_nil hs3) hs2) hs)) fun D σ H ⟨G0, H0, Gm, G, env, B, o, s, ev, k⟩ => by
  unfold dParX3 at ev
  cases e1 : f1 env B with
  | none => rw [e1] at ev; cases ev
  | some p =>
    obtain ⟨a, B1⟩ := p
    rw [e1, Option.bind_some] at ev
    dsimp only at ev
    cases e2 : f2 env B1 with
    | none => rw [e2] at ev; cases ev
    | some q =>
      obtain ⟨a2, B2⟩ := q
      rw [e2, Option.bind_some] at ev
      dsimp only at ev
      cases e3 : f3 env B2 with
      | none => rw [e3] at ev; cases ev
      | some r =>
        obtain ⟨a3, B3⟩ := r
        rw [e3, Option.bind_some] at ev
        cases ev
        refine ⟨G, env, B, a, B1, s.toSt, e1, fun u G1 H1 fr1 ex1 bg1 v1 n1 => ?_⟩
        refine ⟨G1, env, B1, a2, B2, s.toSt.step fr1 ex1 bg1, e2, fun v G2 H2 fr2 ex2 bg2 v2 n2 => ?_⟩
        have s1 := s.step fr1 ex1 bg1
        have s2 := s1.step fr2 ex2 bg2
        refine ⟨G2, env, B2, a3, B3, s2.toSt, e3, fun w G3 H3 fr3 ex3 bg3 v3 n3 => ?_⟩
        have s3 := s2.step fr3 ex3 bg3
        have p1 := s3.putX (i := i) ((v1.step fr2).step fr3) (FrAt.back s.frm v1 n1) (s.away n1)
        have p2 := p1.putX (i := j) (v2.step fr3) (FrAt.back s1.frm v2 n2) (Away.set (s1.away n2) v1 n2)
        exact ⟨u, v, w, rfl, k G3 _ H3 (p2.putX v3 (FrAt.back s2.frm v3 n3) (Away.set (Away.set (s2.away n3) (v1.step fr2) n3) v2 n3))⟩
end
end Dl

/-! DP: list and tuple of a range; a tuple none or one time; index. -/
namespace Dl
open PySem L2 Evl PyProof.Rows
section
variable {X : Cx} {b : Addr} {pos p p2 pos2 : Pos} {e e1 e2 : Expr} {f f1 f2 : DE} {as : List DAr}
theorem IsL.rng {K : PySem.W.Frag} {G : Hp} (lo : Int) (n : Nat) : IsL K G ((List.range n).map fun (i : Nat) => V.int (lo + i)) (rngD lo n) := by
  unfold rngD
  have go : ∀ l : List Nat, IsL K G (l.map fun (i : Nat) => V.int (lo + i)) (l.map fun (i : Nat) => PyData.int (lo + i)) := fun l => by
    induction l with
    | nil => exact .nil
    | cons x l ih => exact .cons (.int _) ih
  exact go _
/-- list(range(n)), a new list -/
def dLRg (f : DE) : DEO := fun env B => (f env B).bind fun p => match p.1 with
  | .int n => if n ≤ 100000 ∧ -100000 ≤ n then some (.l (rngD 0 n.toNat), p.2) else none
  | _ => none
theorem pdn_lrg (hc : X.calm = true) (hl : X.mg "list" = none) (hgl : Gl X "list") (hr : X.mg "range" = none) (hgr : Gl X "range") (h : PD X b e f) (na : starEach [e] X.env = (false, eval e X.env) :: starEach [] X.env := by rfl)
    (na2 : starEach [Expr.Call (.Name "range" p2) [e] [] pos2] X.env = (false, eval (.Call (.Name "range" p2) [e] [] pos2) X.env) :: starEach [] X.env := by rfl) :
    PDN X b (.Call (.Name "list" p) [.Call (.Name "range" p2) [e] [] pos2] [] pos) (dLRg f) := PE.imp (pe_listRg hc hgl hl (prg_1 hgr hr h na) na2) fun σ H Q ⟨G, env, B, c, B', s, ev, k⟩ => by
  unfold dLRg at ev
  cases h1 : f env B with
  | none => rw [h1] at ev; cases ev
  | some q =>
    obtain ⟨a, B1⟩ := q
    rw [h1, Option.bind_some] at ev
    dsimp only at ev
    split at ev
    · rename_i n
      split at ev
      · cases ev
        refine ⟨G, env, B, _, _, s, h1, fun v G1 H1 fr ex bg is => ?_⟩
        cases is
        refine ⟨n, rfl, ⟨by decide, by decide, by omega, by omega, by omega⟩, fun q hq => (k.go fr).new ex bg hq ⟨_, rfl, ?_⟩⟩
        unfold rgV
        rw [Int.sub_zero]
        exact IsL.rng 0 n.toNat
      · cases ev
    · cases ev
/-- tuple(range(n)) -/
def tTupRgN (te : L2.St → Hp → (Int → Int → Hp → Prop) → Prop) : TE := fun σ H Q => te σ H fun a b H1 => RgOk a b ∧ NewT H1 (rgV a b) Q
theorem pe_tupRgN {te : L2.St → Hp → (Int → Int → Hp → Prop) → Prop} (hc : X.calm = true) (hg : Gl X "tuple") (hm : X.mg "tuple" = none) (he : PRg X e te) (na : starEach [e] X.env = (false, eval e X.env) :: starEach [] X.env := by rfl) : PE X (.Call (.Name "tuple" p) [e] [] pos) (tTupRgN te) := by
  constructor
  intro pins s σ H Q I told
  refine Call_ (ld_blt I hg hm boot_tuple (PyProof.Rows.callWith_type1 (args_cons (thn (he pins s σ H _ I told) fun x s1 ⟨r, lo, hi, t, u, v, H1, ex, rng, I1, ⟨z1, z2, z3, z4, z5⟩, k⟩ => args_nil ?_) na) na))
  subst ex
  refine call_tuple_range (n := (hi - lo).toNat) (I1.ok.hd hc) rng (small_one z1 z2 z3 z4) (rangeSize_nat lo hi) z5 fun h' tk acc keep items => ?_
  have I2 : Inv X pins σ H1 { s1 with heap := h', toks := tk } := I1.kept keep
  have laid := laidT (s := { s1 with heap := h', toks := tk }) I2 (vals_rg items) (by rw [rgV_length, sizeLine_eq]; omega) k
  rw [Array.toArray_toList] at laid
  exact laid
def dTRg (f : DE) : DE := fun env B => (f env B).bind fun p => match p.1 with
  | .int n => if n ≤ 100000 ∧ -100000 ≤ n then some (.tuple (rngD 0 n.toNat), p.2) else none
  | _ => none
theorem pd_trg (hc : X.calm = true) (hl : X.mg "tuple" = none) (hgl : Gl X "tuple") (hr : X.mg "range" = none) (hgr : Gl X "range") (h : PD X b e f) (na : starEach [e] X.env = (false, eval e X.env) :: starEach [] X.env := by rfl)
    (na2 : starEach [Expr.Call (.Name "range" p2) [e] [] pos2] X.env = (false, eval (.Call (.Name "range" p2) [e] [] pos2) X.env) :: starEach [] X.env := by rfl) :
    PD X b (.Call (.Name "tuple" p) [.Call (.Name "range" p2) [e] [] pos2] [] pos) (dTRg f) := PE.imp (pe_tupRgN hc hgl hl (prg_1 hgr hr h na) na2) fun σ H Q ⟨G, env, B, c, B', s, ev, k⟩ => by
  unfold dTRg at ev
  cases h1 : f env B with
  | none => rw [h1] at ev; cases ev
  | some q =>
    obtain ⟨a, B1⟩ := q
    rw [h1, Option.bind_some] at ev
    dsimp only at ev
    split at ev
    · rename_i n
      split at ev
      · cases ev
        refine ⟨G, env, B, _, _, s, h1, fun v G1 H1 fr ex bg is => ?_⟩
        cases is
        refine ⟨n, rfl, ⟨by decide, by decide, by omega, by omega, by omega⟩, (k.go fr).tup ex bg ?_⟩
        unfold rgV
        rw [Int.sub_zero]
        exact IsL.rng 0 n.toNat
      · cases ev
    · cases ev
/-! ### a tuple none or one time -/
theorem tup_mul1 (l : Addr) (its : Array Value) (n : Nat) (sl : Array (Option Value)) (dd : Option Addr) (u : Tok) :
    Meets (Builtin.«tuple.__mul__» ⟨[.ref l, .int 1 u], []⟩) (fun _ R s => s.heap.get? l = some { cls := .type "tuple", dict := dd, data := .seq its n, slots := sl } ∧ R (.ok (.ret (.ref l))) s) :=
  .of_wp fun prog w A R s told => by
    obtain ⟨hp, gens, drawn, tk, os⟩ := s
    obtain ⟨at', told⟩ := told
    have idx := AutoSeq1.idx_int
    wp_walk using AutoSeq1.wpAny_loadPart' at'
    exact ⟨_, rfl, told⟩
theorem tup_mul0 (l : Addr) (its : Array Value) (n : Nat) (sl : Array (Option Value)) (dd : Option Addr) (u : Tok) (ne : its.isEmpty = false) :
    Meets (Builtin.«tuple.__mul__» ⟨[.ref l, .int 0 u], []⟩) (fun _ R s => s.heap.get? l = some { cls := .type "tuple", dict := dd, data := .seq its n, slots := sl } ∧ R (.ok (.ret (.ref s.heap.objs.size))) { s with heap := s.heap.push { cls := .type "tuple", data := .seq #[] } }) :=
  .of_wp fun prog w A R s told => by
    obtain ⟨hp, gens, drawn, tk, os⟩ := s
    obtain ⟨at', told⟩ := told
    have idx := AutoSeq1.idx_int
    wp_walk using AutoSeq1.wpAny_loadPart' at'
    exact ⟨_, rfl, told⟩
/-- a tuple times 0 or 1 -/
def gMulT : PyData → PyData → Option PyData
  | .tuple xs, .int 1 => some (.tuple xs)
  | .tuple (x :: xs), .int 0 => some (.tuple [])
  | _, _ => none
def rMulT (K : PySem.W.Frag) : R2 := fun x y H Q => ∃ l xs, x = .ref l ∧ SqT K H l xs ∧ ((y = .int 1 ∧ Q (.ref l) H) ∨ (y = .int 0 ∧ xs ≠ [] ∧ NewT H [] Q))
theorem op_mulT : OpR X (binaryOp .Mult) (rMulT X.K) := by
  intro pins s σ H x y v u Q I rx ry told
  obtain ⟨l, xs, rfl, ht, told⟩ := told
  cases rx
  obtain ⟨its, r, ⟨⟨cls, dd, data, sl⟩, ho, hc, n, hd⟩, _⟩ := I.tuple ht
  simp only at hc hd
  subst hc hd
  rcases told with ⟨rfl, k⟩ | ⟨rfl, ne, k⟩
  · obtain ⟨t, rfl⟩ := ry
    exact wpAny_binaryOp_repeat_ref (T := "tuple") (U := "int") (by decide) ⟨_, ho, rfl⟩ (fun s' => typeIs_int s' 1 t) noFill_tuple_mul F.fills_int_mul F.slot_int_rmul repeat_tuple F.slot_int_index.lookup
      (call_meets F.slot_int_rmul (typeIs_int s 1 t) F.entry_int_rmul (F.args_int_rmul_2 _ _) (int_rmul_tuple 1 t l its.toArray n dd sl) ⟨ho, rfl, ⟨_, ho, rfl⟩,
        call_meets F.slot_tuple_mul ⟨_, ho, rfl⟩ F.entry_tuple_mul (F.args_tuple_mul_2 _ _) (tup_mul1 l its.toArray n sl dd t) ⟨ho, .ref l, H, I, rfl, k⟩⟩)
  · obtain ⟨t, rfl⟩ := ry
    have some' : its.toArray.isEmpty = false := by
      cases its with
      | nil =>
        cases r
        exact absurd rfl ne
      | cons a l => rfl
    exact wpAny_binaryOp_repeat_ref (T := "tuple") (U := "int") (by decide) ⟨_, ho, rfl⟩ (fun s' => typeIs_int s' 0 t) noFill_tuple_mul F.fills_int_mul F.slot_int_rmul repeat_tuple F.slot_int_index.lookup
      (call_meets F.slot_int_rmul (typeIs_int s 0 t) F.entry_int_rmul (F.args_int_rmul_2 _ _) (int_rmul_tuple 0 t l its.toArray n dd sl) ⟨ho, rfl, ⟨_, ho, rfl⟩,
        call_meets F.slot_tuple_mul ⟨_, ho, rfl⟩ F.entry_tuple_mul (F.args_tuple_mul_2 _ _) (tup_mul0 l its.toArray n sl dd t some') ⟨ho, laidT I .nil (Nat.zero_le _) k⟩⟩)
theorem r_mulT {K : PySem.W.Frag} : R2D K (rMulT K) gMulT := fun b G H x y a c d B Q ex bg ia ic eg k => by
  unfold gMulT at eg
  split at eg
  · cases eg
    cases ic
    cases ia with
    | tup ha hl => exact ⟨_, _, rfl, (ha.mono ex).sq, .inl ⟨rfl, k.val ex bg (.tup ha hl)⟩⟩
  · cases eg
    cases ic
    cases ia with
    | tup ha hl =>
      refine ⟨_, _, rfl, (ha.mono ex).sq, .inr ⟨rfl, fun e => ?_, k.tup ex bg .nil⟩⟩
      subst e
      cases hl
  · cases eg
def gMulA : PyData → PyData → Option PyData := gOr gMul gMulT
theorem pd_mulA (h1 : PD X b e1 f1) (h2 : PD X b e2 f2) : PD X b (.BinOp e1 .Mult e2 pos) (dBin gMulA f1 f2) := pd_orB (pd_bin op_mulD r_mul h1 h2) (pd_bin op_mulT r_mulT h1 h2)
/-! ### methods of tuples -/
def tTM (K : PySem.W.Frag) (r : V → List V → Hp → VK → Prop) (to : TE) (t : TA) : TE := fun σ H Q => to σ H fun x H1 => (∃ a xs, x = .ref a ∧ PlT K H1 a xs) ∧ t σ H1 fun ys H2 => r x ys H2 Q
theorem pe_tm {o : Expr} {es : List Expr} {to : TE} {t : TA} {name : Str} {apos cpos : Pos} {id : String} {r : V → List V → Hp → VK → Prop} (slot : Slot "tuple" name id) (hty : typeOf (.builtin id) = pure (.type "method_descriptor")) (hm : MtR X id r) (ho : PE X o to) (ha : PA X (e :: es) t)
    (hbase : attributeBase o name X.env (eval o X.env) = eval o X.env := by rfl)
    (few : ((backTo cpos (starEach (e :: es) X.env)).all (fun x => !x.1) && (backToKw cpos (keywordEach [] X.env)).all (fun x => x.1.isSome) && decide ((e :: es).length + ([] : List Keyword).length + (if ([] : List Keyword).isEmpty then 0 else 1) < 30)) = true := by rfl)
    (line : (apos.endLine == cpos.line) = true := by rfl) (he : starEach (e :: es) X.env = (false, eval e X.env) :: starEach es X.env := by rfl) (hpl : (backTo cpos (starEach es X.env)).any (·.1) = false := by rfl) :
    PE X (.Call (.Attribute o name apos) (e :: es) [] cpos) (tTM X.K r to t) := by
  constructor
  intro pins s σ H Q I told
  refine wpAny_Call_method_late hbase few line rfl (thn (ho.run pins s σ H _ I told) fun v s1 ⟨x, H1, I1, rel, ⟨a, xs, ex, at'⟩, told1⟩ => ?_)
  subst ex
  obtain ⟨its, _, _, ob, n, here, cls, nod, _⟩ := plT_at I1 at'
  cases rel
  refine ⟨"tuple", id, F.plainAttrs_tuple, slot, hty, ⟨ob, here, cls⟩, fun c e => by cases e; exact ⟨ob, here, nod⟩, ?_⟩
  have args := ha.run cpos pins s1 σ H1 _ I1 told1
  rw [he] at args ⊢
  refine Calls.callWith_builtin (by show (false || (backTo cpos (starEach es X.env)).any (·.1)) = false; rw [hpl]; rfl) (Calls.evalArgs_plain ?_)
  exact thn args fun us s2 ⟨vs, H2, I2, rel2, told2⟩ => hm pins s2 σ H2 (.ref a) vs (.ref a) us Q I2 rfl rel2 told2
def intsD : List PyData → Option (List Int)
  | [] => some []
  | .int i :: ds => (intsD ds).map fun l => i :: l
  | _ => none
theorem intsD_eq : ∀ {ds : List PyData} {l : List Int}, intsD ds = some l → ds = l.map PyData.int
  | [], _, h => by
    cases h
    rfl
  | d :: ds, l, h => by
    unfold intsD at h
    split at h
    · rename_i q
      cases q
    · rename_i i ds' q
      cases q
      cases h2 : intsD ds with
      | none => rw [h2] at h; cases h
      | some l' =>
        rw [h2] at h
        cases h
        rw [List.map_cons, ← intsD_eq h2]
    · cases h
/-- the place of an int in a tuple of ints -/
def rTupIx (K : PySem.W.Frag) : V → List V → Hp → VK → Prop := fun x xs H Q => ∃ (p : Addr) (ns : List Int) (z : Int) (j : Nat), x = .ref p ∧ xs = [.int z] ∧ SqT K H p (ns.map V.int) ∧ ns[j]? = some z ∧ (∀ m, m < j → ns[m]? ≠ some z) ∧ Q (.int (j : Nat)) H
theorem mt_tupIx : MtR X "tuple.index" (rTupIx X.K) := by
  intro pins s σ H x xs v us Q I rx rs told
  obtain ⟨p, ns, z, j, rfl, rfl, at', here, no, k⟩ := told
  cases rx
  obtain ⟨u, rfl, t, rfl⟩ := vals1 rs
  obtain ⟨its, r, ⟨⟨cls, dd, dt, sl⟩, ho, hc, n, hd⟩, _⟩ := I.tuple at'
  simp only at hc hd
  subst hc hd
  have len : its.toArray.size = ns.length := by rw [List.size_toArray, ← r.length, List.length_map]
  have each : ∀ (m : Nat) (hm : m < its.toArray.size), ∃ y t', ns[m]? = some y ∧ its.toArray[m] = Value.int y t' := fun m hm => by
    have hm' : m < ns.length := len ▸ hm
    obtain ⟨w, hw, t', hw'⟩ := r.get (i := m) (x := .int ns[m]) (by simp [hm'])
    refine ⟨ns[m], t', List.getElem?_eq_getElem hm', ?_⟩
    rw [← hw', ← (List.getElem?_eq_some_iff.mp hw).2]
    simp
  have hj : j < its.toArray.size := len ▸ (List.getElem?_eq_some_iff.mp here).1
  have flats : (ns.map V.int).all flatV = true := by
    rw [List.all_map]
    exact List.all_eq_true.mpr fun _ _ => rfl
  refine call_meets PySem.F.slot_tuple_index ⟨_, ho, rfl⟩ PySem.F.entry_tuple_index (PySem.F.args_tuple_index_2 _ _) (TI.tuple_indexAt p its.toArray n dd sl (.int z t) (eqU (.int z)) j hj ?_ fun m hm less => ?_)
    ⟨ho, fun w hw => mem_eqAt (x := .int z) ⟨t, rfl⟩ rfl r flats w (by simpa using hw), ⟨.int (j : Nat), H, I.tok _, ⟨_, rfl⟩, k⟩⟩
  · obtain ⟨y, t', h1, h2⟩ := each j hj
    rw [here] at h1
    cases h1
    rw [h2]
    show (z == z) = true
    exact beq_self_eq_true z
  · obtain ⟨y, t', h1, h2⟩ := each m hm
    rw [h2]
    show (y == z) = false
    exact beq_eq_false_iff_ne.mpr fun e => no m less (e ▸ h1)
def gIndexT : PyData → List PyData → Option PyData
  | .tuple ds, [.int z] => (intsD ds).bind fun ns => (ns.findIdx? (· == z)).map fun j => .int (j : Nat)
  | _, _ => none
def dMeth (g : PyData → List PyData → Option PyData) (f : DE) (as : List DAr) : DE := fun env B => (f env B).bind fun p => (dArgs as env p.2).bind fun q => (arD q.1).bind fun ds => (g p.1 ds).map fun d => (d, q.2)
theorem dMeth_some {g : PyData → List PyData → Option PyData} {env : Env} {B B' : Bg} {d : PyData} (h : dMeth g f as env B = some (d, B')) : ∃ a B1 xs ds, f env B = some (a, B1) ∧ dArgs as env B1 = some (xs, B') ∧ arD xs = some ds ∧ g a ds = some d := by
  unfold dMeth at h
  cases h1 : f env B with
  | none => rw [h1] at h; cases h
  | some p =>
    rw [h1, Option.bind_some] at h
    cases h2 : dArgs as env p.2 with
    | none => rw [h2] at h; cases h
    | some q =>
      rw [h2, Option.bind_some] at h
      cases h3 : arD q.1 with
      | none => rw [h3] at h; cases h
      | some ds =>
        rw [h3, Option.bind_some] at h
        cases h4 : g p.1 ds with
        | none => rw [h4] at h; cases h
        | some d' =>
          rw [h4] at h
          cases h
          exact ⟨p.1, p.2, q.1, ds, rfl, h2, h3, h4⟩
theorem pd_indexT {apos cpos : Pos} {es : List Expr} (h : PE X e1 (tD X.K b f) → PA X (e2 :: es) (tDA X.K b (dArgs as)) → PE X (.Call (.Attribute e1 "index" apos) (e2 :: es) [] cpos) (tTM X.K (rTupIx X.K) (tD X.K b f) (tDA X.K b (dArgs as))))
    (h1 : PD X b e1 f) (h2 : PDA X b (e2 :: es) as) : PD X b (.Call (.Attribute e1 "index" apos) (e2 :: es) [] cpos) (dMeth gIndexT f as) := PE.imp (h h1 h2) fun σ H Q ⟨G, env, B, d, B', s, ev, k⟩ => by
  obtain ⟨a, B1, xs, ds, q1, q2, q3, q4⟩ := dMeth_some ev
  unfold gIndexT at q4
  split at q4
  · rename_i us z
    cases h5 : intsD us with
    | none => rw [h5] at q4; cases q4
    | some ns =>
      rw [h5, Option.bind_some] at q4
      cases h6 : ns.findIdx? (· == z) with
      | none => rw [h6] at q4; cases q4
      | some j =>
        rw [h6] at q4
        cases q4
        refine ⟨G, env, B, _, B1, s, q1, fun v G1 H1 fr1 ex1 bg1 is1 => ?_⟩
        cases is1 with
        | @tup ad vs _ ht hl =>
          refine ⟨⟨ad, vs, rfl, ht.mono ex1⟩, G1, env, B1, xs, B', s.step fr1 ex1 bg1, q2, fun ys G2 H2 fr2 ex2 bg2 is2 => ?_⟩
          have a1 := arD_is is2 q3
          cases a1 with
          | cons i1 r1 =>
            cases r1
            cases i1
            have ev2 : vs = ns.map V.int := IsL.of_ints (intsD_eq h5 ▸ hl)
            subst ev2
            obtain ⟨f1, f2, f3⟩ := List.findIdx?_eq_some_iff_getElem.mp h6
            refine ⟨ad, ns, z, j, rfl, rfl, ((ht.mono fr2.ex).mono ex2).sq, ?_, fun m hm e => ?_, (k.go (fr1.trans fr2 bg2.1)).val ex2 bg2 (.int _)⟩
            · rw [List.getElem?_eq_getElem f1, beq_iff_eq.mp f2]
            · have z2 := f3 m hm
              have z3 := List.getElem?_eq_some_iff.mp e
              obtain ⟨l1, l2⟩ := z3
              rw [l2, beq_self_eq_true] at z2
              exact z2 rfl
  · cases q4
def gIndexL : PyData → List PyData → Option PyData
  | .list ds, [d] => if SeqAt.shaped (.list ds) && SeqAt.shaped d then (ds.findIdx? fun z => PyData.eqv z d).map fun j => .int (j : Nat) else none
  | _, _ => none
theorem pd_indexL {apos cpos : Pos} {es : List Expr} (h : PE X e1 (tD X.K b f) → PA X (e2 :: es) (tDA X.K b (dArgs as)) → PE X (.Call (.Attribute e1 "index" apos) (e2 :: es) [] cpos) (tBM X.K "list" (rIndexD X.K) (tD X.K b f) (tDA X.K b (dArgs as))))
    (h1 : PD X b e1 f) (h2 : PDA X b (e2 :: es) as) : PD X b (.Call (.Attribute e1 "index" apos) (e2 :: es) [] cpos) (dMeth gIndexL f as) := PE.imp (h h1 h2) fun σ H Q ⟨G, env, B, d, B', s, ev, k⟩ => by
  obtain ⟨a, B1, xs, ds, q1, q2, q3, q4⟩ := dMeth_some ev
  unfold gIndexL at q4
  split at q4
  · rename_i us z
    split at q4
    · rename_i sh
      rw [Bool.and_eq_true] at sh
      cases h6 : us.findIdx? (fun y => PyData.eqv y z) with
      | none => rw [h6] at q4; cases q4
      | some j =>
        rw [h6] at q4
        cases q4
        refine ⟨G, env, B, _, B1, s, q1, fun v G1 H1 fr1 ex1 bg1 is1 => ?_⟩
        have is0 := is1
        cases is1 with
        | @lst ad vs _ ha hl =>
          refine ⟨tyV_list (ex1 _ _ ha), G1, env, B1, xs, B', s.step fr1 ex1 bg1, q2, fun ys G2 H2 fr2 ex2 bg2 is2 => ?_⟩
          have a1 := arD_is is2 q3
          cases a1 with
          | cons i1 r1 =>
            cases r1
            obtain ⟨f1, f2, f3⟩ := List.findIdx?_eq_some_iff_getElem.mp h6
            refine ⟨ad, _, z, us, j, us[j], rfl, rfl, (is0.mono fr2.ex).dpS ex2 sh.1, i1.dpS ex2 sh.2, sh.1, sh.2, List.getElem?_eq_getElem f1, f2, fun m z' hm e => ?_, (k.go (fr1.trans fr2 bg2.1)).val ex2 bg2 (.int _)⟩
            obtain ⟨l1, l2⟩ := List.getElem?_eq_some_iff.mp e
            have z2 := f3 m hm
            rw [l2] at z2
            exact Bool.eq_false_iff.mpr z2
    · cases q4
  · cases q4
def gOrM (g1 g2 : PyData → List PyData → Option PyData) : PyData → List PyData → Option PyData := fun a ds => (g1 a ds).or (g2 a ds)
theorem dMeth_or {g1 g2 : PyData → List PyData → Option PyData} {env : Env} {B B' : Bg} {d : PyData} (h : dMeth (gOrM g1 g2) f as env B = some (d, B')) : dMeth g1 f as env B = some (d, B') ∨ dMeth g2 f as env B = some (d, B') := by
  obtain ⟨a, B1, xs, ds, q1, q2, q3, q4⟩ := dMeth_some h
  have mk : ∀ g : PyData → List PyData → Option PyData, g a ds = some d → dMeth g f as env B = some (d, B') := fun g e => by
    unfold dMeth
    rw [q1, Option.bind_some]
    dsimp only
    rw [q2, Option.bind_some]
    dsimp only
    rw [q3, Option.bind_some, e]
    all_goals rfl
  unfold gOrM at q4
  cases h1 : g1 a ds with
  | some d1 =>
    rw [h1, Option.some_or] at q4
    cases q4
    exact .inl (mk g1 h1)
  | none =>
    rw [h1, Option.none_or] at q4
    exact .inr (mk g2 q4)
theorem pd_orM {g1 g2 : PyData → List PyData → Option PyData} (h1 : PD X b e (dMeth g1 f as)) (h2 : PD X b e (dMeth g2 f as)) : PD X b e (dMeth (gOrM g1 g2) f as) := PE.imp (pe_or h1 h2) fun σ H Q ⟨G, env, B, d, B', s, ev, k⟩ => by
  rcases dMeth_or ev with h | h
  · exact .inl ⟨G, env, B, d, B', s, h, k⟩
  · exact .inr ⟨G, env, B, d, B', s, h, k⟩
def gIndex : PyData → List PyData → Option PyData := gOrM gIndexT gIndexL
end
end Dl

/-! DQ: isinstance; zip into a dict; pairs of a dict. -/
namespace Dl
open PySem L2 Evl PyProof.Rows
def tyN : PyData → Option String
  | .none => some "NoneType"
  | .bool _ => some "bool"
  | .int _ => some "int"
  | .str _ => some "str"
  | .list _ => some "list"
  | .tuple _ => some "tuple"
  | .dict _ => some "dict"
def isaN (t T : String) : Bool := t == T || (t == "bool" && T == "int")
def tyOk (T : String) : Bool := T == "int" || T == "bool" || T == "str" || T == "tuple" || T == "list" || T == "dict"
theorem kit_isa {K : PySem.W.Frag} : ∀ t ∈ (["NoneType", "bool", "int", "str", "list", "tuple", "dict"] : List String), ∀ T ∈ (["int", "bool", "str", "tuple", "list", "dict"] : List String), PySem.W.kitOne K (.type t) (.type T) = some (isaN t T) := by
  intro t ht T hT
  simp only [List.mem_cons, List.not_mem_nil, or_false] at ht hT
  rcases ht with rfl | rfl | rfl | rfl | rfl | rfl | rfl <;> rcases hT with rfl | rfl | rfl | rfl | rfl | rfl <;> first | rfl | decide +kernel
theorem ty_of {K : PySem.W.Frag} {G H : Hp} (ex : Ex G H) {v : V} {d : PyData} (h : Is K G v d) : ∃ t, tyN d = some t ∧ TyX K H v (.type t) := by
  cases h with
  | non => exact ⟨_, rfl, .base .non⟩
  | bl c => exact ⟨_, rfl, .base (.bl c)⟩
  | int i => exact ⟨_, rfl, .base (.int i)⟩
  | str x => exact ⟨_, rfl, .base (.str x)⟩
  | lst ha hl => exact ⟨_, rfl, .base (.lst (ex _ _ ha))⟩
  | tup ht hl =>
    refine ⟨_, rfl, ?_⟩
    rcases ht.mono ex with ⟨ob, h, _⟩ | ⟨ob, its, n, h1, _, h3, _⟩
    · exact .fTuple h
    · exact .kTuple h1 h3
  | dct ha hd => exact ⟨_, rfl, .base (.dK (ex _ _ ha))⟩
def gIsa (T : String) : PyData → Option PyData := fun d => if tyOk T then (tyN d).map fun t => .bool (isaN t T) else none
section
variable {X : Cx} {b : Addr} {pos p p2 pos2 : Pos} {e e1 e2 : Expr} {f f1 f2 : DE} {as : List DAr}
theorem pd_isa (T : String) {x : Str} (hm : X.mg "isinstance" = none) (hg : Gl X "isinstance") (h : PD X b e f) (hx : PE X (.Name x p2) (tC (.ty T)))
    (he : starEach [e, .Name x p2] X.env = (false, eval e X.env) :: starEach [.Name x p2] X.env := by rfl) (he2 : starEach [Expr.Name x p2] X.env = (false, eval (.Name x p2) X.env) :: starEach [] X.env := by rfl) (hpl : (backTo pos (starEach [.Name x p2] X.env)).any (·.1) = false := by rfl) :
    PD X b (.Call (.Name "isinstance" p) [e, .Name x p2] [] pos) (dUn (gIsa T) f) := PE.imp (pe_callB call_isi hg hm (by decide +kernel) (pa_cons h (pa_cons hx pa_nil he2) he) (by decide) (by decide) he hpl) fun σ H Q ⟨G, env, B, d, B', s, ev, k⟩ => by
  obtain ⟨a, h1, h3⟩ := dUn_some ev
  refine ⟨G, env, B, a, B', s, h1, fun v G1 H1 fr ex bg is => ?_⟩
  unfold gIsa at h3
  split at h3
  · rename_i ok
    obtain ⟨t, e1, ty⟩ := ty_of ex is
    rw [e1] at h3
    cases h3
    have mt : t ∈ (["NoneType", "bool", "int", "str", "list", "tuple", "dict"] : List String) := by
      unfold tyN at e1
      split at e1 <;> (cases e1; decide)
    have mT : T ∈ (["int", "bool", "str", "tuple", "list", "dict"] : List String) := by
      unfold tyOk at ok
      simp only [Bool.or_eq_true, beq_iff_eq] at ok
      rcases ok with ((((rfl | rfl) | rfl) | rfl) | rfl) | rfl <;> decide
    exact ⟨v, .ty T, .type t, .type T, isaN t T, rfl, .ty T, ty, kit_isa t mt T mT, (k.go fr).val ex bg (.bl _)⟩
  · cases h3
/-! ### dict(zip(ks, vs)) -/
def keysD : List PyData → Option (List Key)
  | [] => some []
  | d :: ds => (dKey d).bind fun k => (keysD ds).map fun l => k :: l
theorem IsL.keys {K : PySem.W.Frag} {G : Hp} : ∀ {vs : List V} {ds : List PyData} {ks : List Key}, IsL K G vs ds → keysD ds = some ks → vs = ks.map kV
  | _, _, _, .nil, h => by
    cases h
    rfl
  | _, _, _, .cons (d := d) (ds := ds) i r, h => by
    unfold keysD at h
    cases h1 : dKey d with
    | none => rw [h1] at h; cases h
    | some k =>
      rw [h1, Option.bind_some] at h
      cases h2 : keysD ds with
      | none => rw [h2] at h; cases h
      | some l =>
        rw [h2] at h
        cases h
        have e := dKey_is h1
        subst e
        rw [i.key, IsL.keys r h2]
        rfl
theorem zip_isD {K : PySem.W.Frag} {G : Hp} : ∀ {ks : List Key} {vs : List V} {ds : List PyData}, IsL K G vs ds → IsD K G (ks.zip vs) (kvD (ks.zip ds)) ∧ (ks.zip vs).map (·.1) = (ks.zip ds).map (·.1)
  | [], _, _, _ => ⟨.nil, rfl⟩
  | _ :: _, _, _, .nil => ⟨.nil, rfl⟩
  | k :: ks, _, _, .cons i r => by
    obtain ⟨h1, h2⟩ := zip_isD (ks := ks) r
    exact ⟨.cons i h1, by rw [List.zip_cons_cons, List.zip_cons_cons, List.map_cons, List.map_cons, h2]⟩
theorem zip_kv : ∀ {ks : List Key} {vs : List V} {us : List Value}, Vals vs us → KV (ks.zip vs) (ks.zip us)
  | [], _, _, _ => .nil
  | _ :: _, _, _, .nil => .nil
  | _ :: _, _, _, .cons r t => .cons ⟨rfl, r⟩ (zip_kv t)
theorem zip_has {P : Program} {w : World} : ∀ {ks : List Key} {us ws : List Value}, Vals (ks.map kV) us → ∀ (i : Nat) (x y : Value), us[i]? = some x → ws[i]? = some y → ∃ k, (ks.zip ws)[i]? = some (k, y) ∧ (mixKind P w).is k x = true
  | [], _, _, .nil, i, x, y, h, _ => by simp at h
  | k :: ks, _, w1 :: ws, .cons r t, 0, x, y, h1, h2 => by
    cases h1
    cases h2
    exact ⟨k, rfl, kV_is r⟩
  | k :: ks, _, w1 :: ws, .cons r t, i + 1, x, y, h1, h2 => by
    obtain ⟨k2, e1, e2⟩ := zip_has (P := P) (w := w) t i x y (by simpa using h1) (by simpa using h2)
    exact ⟨k2, by simpa using e1, e2⟩
  | _ :: _, _, [], .cons _ _, i, x, y, _, h2 => by simp at h2
def dDictZip (as : List DAr) : DEO := fun env B => (dArgs as env B).bind fun p => match arD p.1 with
  | some [.list xs, .list ys] => if xs.length ≤ 100000 then (keysD xs).map fun ks => (.d (mergeO (ks.zip ys)), p.2) else none
  | _ => none
theorem pdn_dictZip (hc : X.calm = true) (hd : X.mg "dict" = none) (hgd : Gl X "dict") (hz : X.mg "zip" = none) (hgz : Gl X "zip") (ha : PDA X b [e1, e2] as) (hs : starEach [e1, e2] X.env = (false, eval e1 X.env) :: starEach [e2] X.env := by rfl) (hpl : (backTo pos2 (starEach [e2] X.env)).any (·.1) = false := by rfl)
    (na : starEach [Expr.Call (.Name "zip" p2) [e1, e2] [] pos2] X.env = (false, eval (.Call (.Name "zip" p2) [e1, e2] [] pos2) X.env) :: starEach [] X.env := by rfl) :
    PDN X b (.Call (.Name "dict" p) [.Call (.Name "zip" p2) [e1, e2] [] pos2] [] pos) (dDictZip as) := by
  constructor
  intro pins s σ H Q I ⟨G, env, B, c, B', st, ev, k⟩
  unfold dDictZip at ev
  cases q1 : dArgs as env B with
  | none => rw [q1] at ev; cases ev
  | some q =>
    rw [q1, Option.bind_some] at ev
    split at ev
    · rename_i xs ys q2
      split at ev
      · rename_i small
        cases q3 : keysD xs with
        | none => rw [q3] at ev; cases ev
        | some ks =>
          rw [q3] at ev
          cases ev
          -- the zip
          have inner := ha.run pos2 pins s σ H (fun vs H1 => ∃ G1, Frm b G H G1 H1 ∧ Ex G1 H1 ∧ BagAt b G1 H1 q.2 ∧ IsAs X.K b G1 vs q.1) I ⟨G, env, B, q.1, q.2, st, q1, fun vs G1 H1 fr ex bg is => ⟨G1, fr, ex, bg, is⟩⟩
          refine Call_ (ld_blt I hgd hd boot_dict (PyProof.Rows.callWith_type1 (args_cons (Call_ (ld_blt I hgz hz PyProof.Rows.boot_zip (PyProof.Rows.callWith_type1 (thn inner fun us s1 ⟨vs, H1, I1, rel, G1, fr, ex, bg, is⟩ => ?_) hs hpl))) na) na))
          have two := arD_is is q2
          cases two with
          | cons i1 r1 =>
            cases r1 with
            | cons i2 r2 =>
              cases r2
              cases i1 with
              | @lst a1 v1 _ h1 l1 =>
                cases i2 with
                | @lst a2 v2 _ h2 l2 =>
                  rw [show us = [.ref a1, .ref a2] by cases rel with | cons x1 x2 => cases x2 with | cons y1 y2 => cases y2; cases x1; cases y1; rfl]
                  obtain ⟨it1, rv1, pl1, _⟩ := I1.list (sq_of (ex _ _ h1))
                  obtain ⟨it2, rv2, pl2, _⟩ := I1.list (sq_of (ex _ _ h2))
                  refine call_zip_2 pl1.isList pl2.isList fun h' zz zTI zTO zi1 zi2 size keep => args_nil ?_
                  have ekeys := l1.keys q3
                  subst ekeys
                  have I2 : Inv X pins σ H1 { s1 with heap := h' } := I1.kept (t' := s1.toks) keep
                  have D := PySem.W.ktu_apart s1.heap.objs.size a1 a2 pl1.lt pl2.lt
                  have lk : ks.length = xs.length := by
                    have := l1.len
                    rw [List.length_map] at this
                    exact this
                  refine PySem.call_dict_pairs (knd := mixKind X.prog X.w) (kvs := ks.zip it2) (PairArg.zip _ _ _ _ _ a1 a2 D it1.toArray it2.toArray) (I2.ok.hd hc) ⟨zz, zTI, ⟨_, _, zTO⟩, zi1, zi2, pl1.isList.at fun o e => keep _ o e, pl2.isList.at fun o e => keep _ o e⟩ ⟨?_, fun i key v ⟨e1, e2⟩ => ?_⟩ ?_ fun h2' tk made kept => ?_
                  · rw [List.length_zip, List.size_toArray, List.size_toArray, ← rv1.length, List.length_map]
                  · exact zip_has rv1 i key v (by simpa using e1) (by simpa using e2)
                  · rw [List.size_toArray, List.size_toArray, ← rv1.length, List.length_map]
                    exact sz_of (by omega)
                  · have fresh : H1 h'.objs.size = none := I2.hok.fresh (Nat.le_refl _)
                    obtain ⟨z1, z2⟩ := zip_isD (ks := ks) l2
                    obtain ⟨m1, m2⟩ := merge_keys z2 z1 (kvs := []) (qs := []) rfl .nil
                    have few : (mergeK [] (ks.zip v2)).length ≤ sizeLine := by
                      have z := length_mergeK (ks.zip v2) []
                      rw [List.length_nil, Nat.zero_add, List.length_zip] at z
                      exact sz_of (by omega)
                    have away : (h'.objs.size == sysModules) = false := beq_eq_false_iff_ne.mpr (Nat.ne_of_gt I2.big)
                    have own : ∀ c ∈ [s1.heap.objs.size + 4, s1.heap.objs.size + 3, s1.heap.objs.size, s1.heap.objs.size + 1], FpOk X pins H1 c := fun c hc => by
                      have le : s1.heap.objs.size ≤ c := by
                        simp only [List.mem_cons, List.not_mem_nil, or_false] at hc
                        rcases hc with rfl | rfl | rfl | rfl
                        · exact Nat.le_add_right _ _
                        · exact Nat.le_add_right _ _
                        · exact Nat.le_refl _
                        · exact Nat.le_add_right _ _
                      exact I1.fpOk le (I1.hok.fresh le)
                    have new : ObjOk X.prog X.w (upd H1 h'.objs.size (.dK (mergeK [] (ks.zip v2)))) h2' h'.objs.size (.dK (mergeK [] (ks.zip v2))) := ⟨few, away, merged [] (ks.zip it2), KV.merge (zip_kv rv2) .nil, made⟩
                    exact ⟨.ref h'.objs.size, _, I2.turnedNew (t' := tk) kept own (Nat.le_refl _) new, rfl, (k.go fr).new ex bg fresh ⟨_, rfl, m1, m2⟩⟩
      · cases ev
    · cases ev
end
end Dl

/-! DR: enumerate of a list from a number on. -/
namespace Dl
open PySem L2 Evl PyProof.Rows
/-- a list's items with their places, counted from k0, each in a new pair -/
def ItL (K : PySem.W.Frag) (k0 : Int) (a : Addr) : It :=
  ⟨fun i H => ∃ (xs : List V) (x : V), SqL K H a xs ∧ xs[i]? = some x, fun i H v H' => ∃ T x, v = .ref T ∧ H T = none ∧ H' = upd H T (.tup [.int (k0 + (i : Int)), x]) ∧ ∀ xs, SqL K H a xs → xs[i]? = some x, fun i H => ∃ xs : List V, SqL K H a xs ∧ xs.length ≤ i⟩
theorem turn_enL {P : Program} {w : World} {K : PySem.W.Frag} {elts : List Expr} {kk : Nat} {tpos : Pos} (k0 : Int) (a e it : Addr) (n1 : e ≠ it) (n2 : e ≠ a) (n3 : a ≠ it) :
    Turn P w K (.Tuple elts kk tpos) (ItL K k0 a) [e, it] e (fun i h => (∃ old, IsEnum h e it (k0 + (i : Int)) old) ∧ h.IsListIter it a i) where
  mem := List.mem_cons_self
  obj := fun i h ⟨⟨old, q⟩, o, ho, _, hd⟩ c hc => by
    rcases List.mem_cons.mp hc with rfl | hc
    · exact ⟨_, q, fun _ z => nomatch z⟩
    · rw [List.mem_singleton.mp hc]
      exact ⟨o, ho, fun v z => by rw [hd] at z; cases z⟩
  keep := fun i h h' ⟨⟨old, q⟩, r⟩ k => ⟨⟨old, k e List.mem_cons_self _ q⟩, r.at fun o z => k it (List.mem_cons_of_mem _ List.mem_cons_self) o z⟩
  item := by
    intro X hP hw hK hc i pins s σ H E I hf st hg
    subst hP hw hK
    obtain ⟨xs, x, hq, hx⟩ := hg
    obtain ⟨its, rv, pl, _⟩ := I.list hq
    have tup := pl.isList
    obtain ⟨u, hu, ru⟩ := rv.get hx
    have W := WalksT.enumFrom (prog := X.prog) (w := X.w) (A := X.A) k0 (Draws.list (A := X.A.in1) (I.ok.hd hc) it a n3 its.toArray) e n1 (by simp [n1, n2]) (by simp)
    have small : i < its.toArray.size := by
      rw [List.size_toArray]
      exact (List.getElem?_eq_some_iff.mp hu).1
    refine W.item i s _ E small ⟨st.1, st.2, tup⟩ fun T vals h1 tk ⟨t, y, hy, ev⟩ hT isT mid keep => ⟨.ref T, rfl, W.go elts kk tpos i T _ _ E mid fun h2 st2 keep2 => ?_⟩
    have same : y = u := by
      have z : its.toArray[i]? = some y := hy
      rw [List.getElem?_toArray, hu] at z
      exact (Option.some.inj z).symm
    subst same
    subst ev
    have away := W.apart i T _ mid
    have laid : IsTup h2 T #[.int (k0 + (i : Int)) t, y] := let ⟨o, e1, e2⟩ := isT; ⟨o, keep2 T o away e1, e2⟩
    have new : ObjOk X.prog X.w (upd H T (.tup [.int (k0 + (i : Int)), x])) h2 T (.tup [.int (k0 + (i : Int)), x]) := ⟨by show 2 ≤ sizeLine; decide, [.int (k0 + (i : Int)) t, y], .cons ⟨t, rfl⟩ (.cons ru .nil), laid⟩
    have I1 : Inv X pins σ (upd H T (.tup [.int (k0 + (i : Int)), x])) { s with heap := h2, toks := tk } := I.turnedNew (fun b o hb q => keep2 b o hb (keep b o hb q)) hf hT new
    refine ⟨.ref T, _, I1, rfl, ⟨T, x, rfl, I.hok.fresh hT, rfl, fun ys hy => by rw [I.list_inj hy hq]; exact hx⟩, ⟨st2.1, st2.2.1⟩, fun c hcm => ?_⟩
    rw [upd_ne (fun z => away (by rw [← z]; exact hcm))]
    exact (hf c hcm).1
  done := by
    intro X hP hw hK hc i pins s σ H E I hf st hg
    subst hP hw hK
    obtain ⟨xs, hq, hx⟩ := hg
    obtain ⟨its, rv, pl, _⟩ := I.list hq
    have tup := pl.isList
    obtain ⟨⟨old, q⟩, r⟩ := st
    refine wpAny_pyNext_enum_endD (n := i) (St := fun j h => j = i ∧ h.IsListIter it a j ∧ h.IsList a its.toArray) (P := fun _ _ => True) (fp := [it, a]) ⟨fun _ _ z => let ⟨o, ho, _⟩ := z.2.1; ⟨o, ho⟩, fun j h h' z k => ⟨z.1, z.2.1.at fun o e => k it (by simp) o e, z.2.2.at fun o e => k a (by simp) o e⟩, fun j s1 Q1 E1 hj z _ => absurd hj (by rw [z.1]; exact Nat.lt_irrefl _), fun s1 Q1 E1 z k => wpAny_nextOf_list_end (I.ok.hd hc) z.2.1 z.2.2 (Array.getElem?_eq_none (by rw [List.size_toArray, ← rv.length]; exact hx)) k⟩ q ⟨rfl, r, tup⟩ fun h' k => ?_
    exact ⟨rfl, I.turnedL (t' := s.toks) (fun b o hb z => k b o (fun y => hb (by simp [y])) z) hf⟩
  self := fun A i s Q E ⟨⟨_, q⟩, _⟩ k => wpAny_pyIter_enum q k
section
variable {X : Cx} {b : Addr} {pos : Pos}
def iEn2 (K : PySem.W.Frag) (ta : TA) : TI := fun σ H R => ta σ H fun vs H1 => ∃ a k0 xs, vs = [.ref a, .int k0] ∧ -(2 ^ 62) ≤ k0 ∧ k0 < 2 ^ 62 ∧ SqL K H1 a xs ∧ R (ItL K k0 a) H1
theorem pi_en2 {e e2 : Expr} {ta : TA} {p pos tpos : Pos} {elts : List Expr} {kk : Nat} (hg : Gl X "enumerate") (hm : X.mg "enumerate" = none) (ha : PA X [e, e2] ta) (hs : starEach [e, e2] X.env = (false, eval e X.env) :: starEach [e2] X.env := by rfl) (hpl : (backTo pos (starEach [e2] X.env)).any (·.1) = false := by rfl) :
    PI X (.Tuple elts kk tpos) (.Call (.Name "enumerate" p) [e, e2] [] pos) (iEn2 X.K ta) := by
  constructor
  intro pins s σ H R I told
  refine Call_ (ld_blt I hg hm boot_enumerate (PyProof.Rows.callWith_type1 (thn (ha.run pos pins s σ H _ I told) fun us s1 ⟨vs, H1, I1, r1, a, k0, xs, ev, lo, hi, hq, k⟩ => ?_) hs hpl))
  subst ev
  have two : ∃ t, us = [.ref a, .int k0 t] := by
    cases r1 with
    | cons x1 x2 =>
      cases x2 with
      | cons y1 y2 =>
        cases y2
        cases x1
        obtain ⟨t, rfl⟩ := y1
        exact ⟨t, rfl⟩
  obtain ⟨t, rfl⟩ := two
  have own : ∀ c ∈ [s1.heap.objs.size + 1, s1.heap.objs.size], FpOk X pins H1 c := fun c hc => by
    have le : s1.heap.objs.size ≤ c := by
      rcases List.mem_cons.mp hc with z | z
      · rw [z]
        exact Nat.le_succ _
      · rw [List.mem_singleton.mp z]
        exact Nat.le_refl _
    exact I1.fpOk le (I1.hok.fresh le)
  obtain ⟨its, _, pl, _⟩ := I1.list hq
  have lt : a < s1.heap.objs.size := pl.lt
  refine enum_begins (begins_list a its.toArray) pl.isList (by omega) (by omega) fun h' en itr _ keep => wpAny_pyIter_enum en ⟨_, _, _, _, H1, rfl, I1.kept (t' := s1.toks) keep, turn_enL k0 a (s1.heap.objs.size + 1) s1.heap.objs.size (Nat.succ_ne_self _) (Nat.ne_of_gt (Nat.lt_succ_of_lt lt)) (Nat.ne_of_lt lt), ⟨⟨.none, by rw [show k0 + ((0 : Nat) : Int) = k0 by omega]; exact en⟩, ⟨_, itr, rfl, rfl⟩⟩, own, k⟩
def enI : Int → List PyData → List PyData
  | _, [] => []
  | n, d :: ds => .tuple [.int n, d] :: enI (n + 1) ds
theorem enI_len : ∀ (ds : List PyData) (n : Int), (enI n ds).length = ds.length
  | [], _ => rfl
  | _ :: ds, n => by
    show (enI (n + 1) ds).length + 1 = _
    rw [enI_len ds (n + 1)]
    all_goals rfl
theorem enI_get : ∀ (ds : List PyData) (n : Int) (i : Nat), (enI n ds)[i]? = ds[i]?.map fun d => .tuple [.int (n + (i : Int)), d]
  | [], _, _ => rfl
  | d :: ds, n, 0 => by
    show some (PyData.tuple [.int n, d]) = some _
    rw [show n + ((0 : Nat) : Int) = n by omega]
  | d :: ds, n, i + 1 => by
    show (enI (n + 1) ds)[i]? = _
    rw [enI_get ds (n + 1) i, List.getElem?_cons_succ, show n + 1 + (i : Int) = n + ((i + 1 : Nat) : Int) by omega]
theorem itOk_en2 {K : PySem.W.Frag} {G : Hp} {a : Addr} {k0 : Int} {xs : List V} {ds : List PyData} (h : G a = some (.lst xs)) (hl : IsL K G xs ds) : ItOkW K b G (ItL K k0 a) (enI k0 ds) := fun i G1 H1 B e1 e2 g => by
  have q : SqL K H1 a xs := sq_of (e2 a _ (e1 a _ h))
  refine ⟨fun hi => ⟨xs, q, by rw [hl.len]; rw [enI_len] at hi; exact hi⟩, fun d hd => ?_⟩
  rw [enI_get] at hd
  cases h1 : ds[i]? with
  | none => rw [h1] at hd; cases hd
  | some d1 =>
    rw [h1] at hd
    cases hd
    obtain ⟨v, hv, is⟩ := hl.get h1
    refine ⟨⟨xs, v, q, hv⟩, fun x H2 y => ?_⟩
    obtain ⟨T, z, rfl, hT, rfl, y⟩ := y
    have z2 := y xs q
    rw [hv] at z2
    cases z2
    obtain ⟨f1, f2, f3⟩ := pair_frm (K := K) (o := .tup [.int (k0 + (i : Int)), v]) e2 g hT
    exact ⟨G1, f1, f2, f3, T, _, _, rfl, rfl, .inl (.inl upd_same), .cons (.int _) (.cons (is.mono e1) .nil)⟩
def iEnum2 (as : List DAr) : DI := fun env B => (dArgs as env B).bind fun p => match arD p.1 with
  | some [.list ds, .int k0] => if -100000 ≤ k0 ∧ k0 ≤ 100000 then some (enI k0 ds, p.2) else none
  | _ => none
theorem pdi_enum2 {e e2 : Expr} {as : List DAr} {p tpos : Pos} {elts : List Expr} {kk : Nat} (hg : Gl X "enumerate") (hm : X.mg "enumerate" = none) (ha : PDA X b [e, e2] as) (hs : starEach [e, e2] X.env = (false, eval e X.env) :: starEach [e2] X.env := by rfl) (hpl : (backTo pos (starEach [e2] X.env)).any (·.1) = false := by rfl) :
    PDIW X b (.Tuple elts kk tpos) (.Call (.Name "enumerate" p) [e, e2] [] pos) (iEnum2 as) := PI.imp (pi_en2 hg hm ha hs hpl) fun σ H R ⟨G, env, B, ds, B', s, ev, k⟩ => by
  unfold iEnum2 at ev
  cases h1 : dArgs as env B with
  | none => rw [h1] at ev; cases ev
  | some p =>
    rw [h1, Option.bind_some] at ev
    split at ev
    · rename_i ds1 k0 h2
      split at ev
      · cases ev
        refine ⟨G, env, B, p.1, p.2, s, h1, fun vs G1 H1 fr ex bg is => ?_⟩
        have q := arD_is is h2
        cases q with
        | cons i1 r =>
          cases r with
          | cons i2 r =>
            cases r
            cases i2
            cases i1 with
            | lst ha' hl => exact ⟨_, _, _, rfl, by omega, by omega, sq_of (ex _ _ ha'), k _ G1 H1 fr ex bg (itOk_en2 ha' hl)⟩
      · cases ev
    · cases ev
end
end Dl

/-! DS: dict comprehensions. -/
namespace Dl
open PySem L2 Evl PyProof.Rows
def dcGo (tg : DG) (c fk fv : DE) (env : Env) : List PyData → List (Key × PyData) → Bg → Option (List (Key × PyData) × Bg)
  | [], kvs, B => some (kvs, B)
  | d :: ds, kvs, B => (tg d env).bind fun e1 => (c e1 B).bind fun p => match p.1 with
    | .bool true => (fk e1 p.2).bind fun q => (fv e1 q.2).bind fun r => (dKey q.1).bind fun k => dcGo tg c fk fv env ds (putO kvs k r.1) r.2
    | .bool false => dcGo tg c fk fv env ds kvs p.2
    | _ => none
def dDcO (fi : DI) (tg : DG) (c fk fv : DE) (vs : List Nat) : DEO := fun env B => (fi env B).bind fun p => if p.1.length ≤ 100000 then (dcGo tg c fk fv (wipeE env vs) p.1 [] p.2).map fun q => (.d q.1, q.2) else none
theorem dcGo_cons {tg : DG} {c fk fv : DE} {env : Env} {d : PyData} {ds : List PyData} {kvs out : List (Key × PyData)} {B B' : Bg} (h : dcGo tg c fk fv env (d :: ds) kvs B = some (out, B')) : ∃ e1 t B1, tg d env = some e1 ∧ c e1 B = some (.bool t, B1) ∧
    (if t = true then ∃ k y B2 B3, fk e1 B1 = some (keyD k, B2) ∧ fv e1 B2 = some (y, B3) ∧ dcGo tg c fk fv env ds (putO kvs k y) B3 = some (out, B') else dcGo tg c fk fv env ds kvs B1 = some (out, B')) := by
  unfold dcGo at h
  cases h1 : tg d env with
  | none => rw [h1] at h; cases h
  | some e1 =>
    rw [h1, Option.bind_some] at h
    cases h2 : c e1 B with
    | none => rw [h2] at h; cases h
    | some p =>
      obtain ⟨a, B1⟩ := p
      rw [h2, Option.bind_some] at h
      dsimp only at h
      split at h
      · cases h3 : fk e1 B1 with
        | none => rw [h3] at h; cases h
        | some q =>
          rw [h3, Option.bind_some] at h
          cases h4 : fv e1 q.2 with
          | none => rw [h4] at h; cases h
          | some r =>
            rw [h4, Option.bind_some] at h
            cases h5 : dKey q.1 with
            | none => rw [h5] at h; cases h
            | some k =>
              rw [h5, Option.bind_some] at h
              exact ⟨e1, true, B1, rfl, h2, by rw [if_pos rfl]; exact ⟨k, r.1, q.2, r.2, by rw [h3, ← dKey_is h5], h4, h⟩⟩
      · exact ⟨e1, false, B1, rfl, h2, by rw [if_neg Bool.false_ne_true]; exact h⟩
      · cases h
structure DcInv (K : PySem.W.Frag) (b D : Addr) (G0 H0 G H : Hp) (B : Bg) (acc : List (Key × V)) (kvs : List (Key × PyData)) : Prop where
  frm : Frm b G0 H0 G H
  ex : Ex G H
  no : G D = none
  bag : BagAt b G H B
  at' : H D = some (.dK acc)
  ks : acc.map (·.1) = kvs.map (·.1)
  is : IsD K G acc (kvD kvs)
section
variable {K : PySem.W.Frag} {b D : Addr} {G0 H0 G H G' H' : Hp} {B B' : Bg} {acc : List (Key × V)} {kvs : List (Key × PyData)}
theorem DcInv.step (x : DcInv K b D G0 H0 G H B acc kvs) (hD : D ≠ b) (f : Frm b G H G' H') (e : Ex G' H') (g : BagAt b G' H' B') : DcInv K b D G0 H0 G' H' B' acc kvs :=
  ⟨x.frm.trans f g.1, e, f.hide D _ x.at' x.no, g, f.keep D _ x.at' hD, x.ks, x.is.mono f.ex⟩
theorem DcInv.put {k : Key} {y : V} {d : PyData} (x : DcInv K b D G0 H0 G H B acc kvs) (hD : D ≠ b) (h0 : H0 D = none) (i : Is K G y d) : DcInv K b D G0 H0 G (upd H D (.dK (putK acc k y))) B (putK acc k y) (putO kvs k d) where
  frm := ⟨x.frm.ex, fun a o h n => by rw [upd_ne (ne_of_none h h0)]; exact x.frm.keep a o h n, x.frm.hide, fun c h => (x.frm.cell c h).ne hD⟩
  ex := fun a o h => by
    rw [upd_ne (ne_of_none h x.no)]
    exact x.ex a o h
  no := x.no
  bag := by
    obtain ⟨h1, c, h2, h3⟩ := x.bag
    exact ⟨h1, c, by rw [upd_ne hD.symm]; exact h2, h3⟩
  at' := upd_same
  ks := keys_put x.ks
  is := by
    rw [← kvD_put]
    exact x.is.put i
theorem tDN_dc {fi : DI} {tg : DG} {js vs : List Nat} {c fk fv : DE} (hj : ∀ j ∈ js, j ∈ vs) : ∀ σ H Q, tDN K b (dDcO fi tg c fk fv vs) σ H Q → tDc (tDI K b fi) (tDG K b tg js) (tDT K b c) (tD K b fk) (tD K b fv) vs σ H Q := fun σ H Q ⟨G, env, B, d, B', s, ev, k⟩ => by
  unfold dDcO at ev
  cases h1 : fi env B with
  | none => rw [h1] at ev; cases ev
  | some p =>
    obtain ⟨ds, B1⟩ := p
    rw [h1, Option.bind_some] at ev
    dsimp only at ev
    split at ev
    · rename_i hsz
      cases h2 : dcGo tg c fk fv (wipeE env vs) ds [] B1 with
      | none => rw [h2] at ev; cases ev
      | some q =>
        obtain ⟨es, B2⟩ := q
        rw [h2] at ev
        simp only [Option.map_some, Option.some.injEq, Prod.mk.injEq] at ev
        obtain ⟨rfl, rfl⟩ := ev
        refine ⟨G, env, B, ds, B1, s, h1, fun J G1 H1 fr1 ex1 bg1 it => ?_⟩
        intro D hDn
        have hDb : D ≠ b := bg1.ne hDn
        have s1 := (s.step fr1 ex1 bg1).wipe vs
        have gD : G1 D = none := ex_none ex1 hDn
        refine ⟨fun i m H => m = ds.length - i ∧ i ≤ ds.length ∧ ∃ G2 B3 acc kvs, DcInv K b D G1 H1 G2 H B3 acc kvs ∧ kvs.length ≤ i ∧ dcGo tg c fk fv (wipeE env vs) (ds.drop i) kvs B3 = some (es, B2), ⟨ds.length, rfl, Nat.zero_le _, G1, B1, [], [], ?_, Nat.le_refl _, by simpa using h2⟩, ?_⟩
        · exact ⟨⟨Ex.refl _, fun a o h _ => by rw [upd_ne (ne_of_none h hDn)]; exact h, fun _ _ _ n => n, fun c h => h.new hDn⟩, ex1.trans (Ex.new hDn), gD, by
            obtain ⟨h1, c, h2, h3⟩ := bg1
            exact ⟨h1, c, by rw [upd_ne hDb.symm]; exact h2, h3⟩, upd_same, rfl, .nil⟩
        · rintro i m H' ⟨rfl, hi, G2, B3, acc, kvs, L, hn, hr⟩
          obtain ⟨z1, z2⟩ := it i G2 H' B3 L.frm.ex L.ex L.bag
          by_cases hlt : i < ds.length
          · have hd : ds[i]? = some ds[i] := List.getElem?_eq_getElem hlt
            obtain ⟨go, yl⟩ := z2 _ hd
            rw [List.drop_eq_getElem_cons hlt] at hr
            obtain ⟨e1, t, B4, hg, hc, ht⟩ := dcGo_cons hr
            refine .inr ⟨go, fun H => ∃ G2 B3 acc kvs, DcInv K b D G1 H1 G2 H B3 acc kvs ∧ kvs.length ≤ i + 1 ∧ dcGo tg c fk fv (wipeE env vs) (ds.drop (i + 1)) kvs B3 = some (es, B2), fun H3 hN => ⟨ds.length - (i + 1), by omega, rfl, hlt, hN⟩, fun x H3 y => ?_⟩
            obtain ⟨G3, fr3, ex3, bg3, is3⟩ := yl x H3 y
            have L3 := L.step hDb fr3 ex3 bg3
            have s3 : St K b G3 (wipe σ vs) H3 (wipeE env vs) B3 := s1.step (L.frm.trans fr3 bg3.1) ex3 bg3
            refine ⟨G3, wipeE env vs, B3, ds[i], e1, s3, is3, hg, fun σ2 w2 s4 => ?_⟩
            refine ⟨(w2 vs hj).trans wipe_idem, G3, e1, B3, t, B4, s4, hc, fun G4 H4 fr4 ex4 bg4 => ?_⟩
            have L4 := L3.step hDb fr4 ex4 bg4
            cases t with
            | true =>
              rw [if_pos rfl] at ht
              obtain ⟨key, y1, B5, B6, hf, hf2, hr5⟩ := ht
              refine iteT ?_
              refine ⟨G4, e1, B4, keyD key, B5, s4.step fr4 ex4 bg4, hf, fun v G5 H5 fr5 ex5 bg5 is5 => ?_⟩
              refine ⟨G5, e1, B5, y1, B6, (s4.step fr4 ex4 bg4).step fr5 ex5 bg5, hf2, fun u G6 H6 fr6 ex6 bg6 is6 => ?_⟩
              have L6 := (L4.step hDb fr5 ex5 bg5).step hDb fr6 ex6 bg6
              have len : acc.length = kvs.length := by
                have z := congrArg List.length L.ks
                rw [List.length_map, List.length_map] at z
                exact z
              refine ⟨acc, key, is5.key, L6.at', sz_lt (by omega), G6, B6, putK acc key u, putO kvs key y1, L6.put hDb hDn is6, ?_, hr5⟩
              exact Nat.le_trans (putO_len kvs key y1) (Nat.succ_le_succ hn)
            | false =>
              rw [if_neg Bool.false_ne_true] at ht
              refine iteF ?_
              exact ⟨G4, B4, acc, kvs, L4, by omega, ht⟩
          · refine .inl ⟨z1 (by omega), ?_⟩
            rw [List.drop_eq_nil_of_le (by omega)] at hr
            cases hr
            refine k D (.dK acc) G2 H' ⟨fr1.ex.trans L.frm.ex, fun a o h n => L.frm.keep a o (fr1.keep a o h n) n, fun a o h n => ?_, fun c h => L.frm.cell c (fr1.cell c h)⟩ L.ex L.bag (fr1.back hDb hDn) L.at' L.no hDb ⟨acc, rfl, L.ks, L.is⟩
            by_cases hab : a = b
            · rw [hab]; exact L.bag.1
            · exact L.frm.hide a o (fr1.keep a o h hab) (fr1.hide a o h n)
    · cases ev
end
section
variable {X : Cx} {b : Addr} {pos : Pos} {tg : Expr}
theorem pdn_dc {kx vx iter : Expr} {ifs : List Expr} {scope : Scope} (own : List (Str × Nat)) {fi : DI} {g : DG} {js : List Nat} {c fk fv : DE} (hc : X.calm = true) (hN : X.N.Nodup) (hi : PDI X b tg iter fi) (ok : BlkOk X.N X.env.scope scope own)
    (hg : ∀ (s : Shared) (H : Hp) (C : Addr) (cl : List (Str × Addr)) (fp : List Addr), PDG (X.blk s H scope (compEnvC scope cl C X.env) fp) b tg g js)
    (ht : ∀ (s : Shared) (H : Hp) (C : Addr) (cl : List (Str × Addr)) (fp : List Addr), PDTs (X.blk s H scope (compEnvC scope cl C X.env) fp) b ifs c)
    (hk : ∀ (s : Shared) (H : Hp) (C : Addr) (cl : List (Str × Addr)) (fp : List Addr), PD (X.blk s H scope (compEnvC scope cl C X.env) fp) b kx fk)
    (hv : ∀ (s : Shared) (H : Hp) (C : Addr) (cl : List (Str × Addr)) (fp : List Addr), PD (X.blk s H scope (compEnvC scope cl C X.env) fp) b vx fv)
    (hj : ∀ j ∈ js, j ∈ own.map (·.2) := by decide) (hs : ∀ x, foldedSetIterable iter X.env x = pure x := by intro _; rfl) :
    PDN X b (.DictComp kx vx [⟨tg, iter, ifs, 0⟩] scope pos) (dDcO fi g c fk fv (own.map (·.2))) := PE.imp (pe_dc (g := tDG X.K b g js) (tt := tDT X.K b c) (tk := tD X.K b fk) (tv := tD X.K b fv) hc hN hi ok hg ht hk hv hs) (tDN_dc hj)
end
end Dl

/-! DT: sets of ints and texts, made out of a list and sorted at once. -/
namespace Dl
open PySem L2 Evl PyProof.Rows
/-- the key that a value is -/
def kOf : Value → Key
  | .int i _ => .inl i
  | .str x _ => .inr x
  | _ => .inl 0
theorem kOf_is {k : Key} {v : Value} (h : keyIs k v = true) : kOf v = k := by
  rcases keyIs_shape h with ⟨i, t, rfl, rfl⟩ | ⟨x, t, rfl, rfl⟩ <;> rfl
def GoodM (P : Program) (w : World) (e : Int × Value) : Prop := keyIs (kOf e.2) e.2 = true ∧ e.1 = (mixKind P w).hash (kOf e.2) ∧ e.2.scannable = true
/-- the set at a holds the keys ks, each once -/
def SetM (P : Program) (w : World) (h : Heap) (a : Addr) (ks : List Key) : Prop := ∃ o es ep t, h.get? a = some o ∧ o.ExactSet ∧ o.data = .set es ep t ∧ (∀ e ∈ es.toList, GoodM P w e) ∧ (es.toList.map fun e => kOf e.2).Perm ks ∧ ks.Nodup ∧
  es.size < scanBound ∧ t.fits es.size = true ∧ Ris t.place.toList ∧ (w.params.followText "set-order" = true ∨ t.led = true)
section
variable {P : Program} {w : World} {A : Around} {E : Value → Shared → Prop} {s : Shared} {a : Addr} {ks : List Key}
theorem SetM.at {h h' : Heap} (R : SetM P w h a ks) (k : ∀ o, h.get? a = some o → h'.get? a = some o) : SetM P w h' a ks := let ⟨o, es, ep, t, ho, r⟩ := R; ⟨o, es, ep, t, k o ho, r⟩
theorem SetM.len {h : Heap} (R : SetM P w h a ks) : ks.length < scanBound := by
  obtain ⟨o, es, ep, t, _, _, _, _, pm, _, hb, _⟩ := R
  have z := pm.length_eq
  rw [List.length_map, Array.length_toList] at z
  omega
theorem good_of {l : List (Int × Value)} (g : ∀ e ∈ l, GoodM P w e) : ElemsOf (mixKind P w) l := fun e he => ⟨⟨kOf e.2, (g e he).1, (g e he).2.1⟩, (g e he).2.2⟩
def memK (ks : List Key) (k : Key) : Bool := ks.any fun j => decide (j = k)
theorem memK_iff {ks : List Key} {k : Key} : memK ks k = true ↔ k ∈ ks := by
  unfold memK
  rw [List.any_eq_true]
  exact ⟨fun ⟨j, h1, h2⟩ => of_decide_eq_true h2 ▸ h1, fun h => ⟨k, h, decide_eq_true rfl⟩⟩
def addK (ks : List Key) (k : Key) : List Key := if memK ks k = true then ks else ks ++ [k]
/-- the table's end of an add -/
theorem addM_tail {g : Bool → Sem Unit} (hg : ∀ (b : Bool) (s1 : Shared) (Q1 : Unit → Shared → Prop), Q1 () s1 → wpAny (model P w) A (g b) Q1 E s1) {o : Obj} {es es1 : Array (Int × Value)} {ep : Nat} {t t2 : SetTable} (ho : s.heap.get? a = some o) (hex : o.ExactSet) (hd : o.data = .set es ep t)
    (g1 : ∀ e ∈ es1.toList, GoodM P w e) (p1 : (es1.toList.map fun e => kOf e.2).Perm ks) (nd : ks.Nodup) (hb1 : es1.size < scanBound) (hf2 : t2.fits es1.size = true) (hr : Ris t2.place.toList) (hl : w.params.followText "set-order" = true ∨ t2.led = true) {was : Bool} {R : Option Bool → Shared → Prop}
    (k : ∀ h', Heap.SameBut a s.heap h' → SetM P w h' a ks → R (some true) { s with heap := h' }) :
    wpAny (model P w) A (do
        storeSet a es1 t2
        if (!was && t2.tooFull) = true then do
            g (relayAll t2 es1 (SetTable.grown es1.size)).2.2
            storeSet a (relayAll t2 es1 (SetTable.grown es1.size)).1 (relayAll t2 es1 (SetTable.grown es1.size)).2.1
            pure (some true)
          else pure (some true)) R E s := by
  refine wpAny_bind (wpAny_storeSet_of ho hd ?_ (fits_of_scanBound hb1))
  have at1 := store_at (es' := es1) (t' := t2) ho hd
  have but1 := Heap.SameBut.update s.heap a (Obj.putSet es1 t2)
  split
  · have a1 := relayAll_perm t2 es1 (SetTable.grown es1.size)
    have a2 := relayAll_fits t2 es1 (SetTable.grown es1.size)
    have a3 := relayAll_ris t2 es1 (SetTable.grown es1.size)
    have a4 := relayAll_led t2 es1 (SetTable.grown es1.size)
    generalize relayAll t2 es1 (SetTable.grown es1.size) = Z at a1 a2 a3 a4 ⊢
    obtain ⟨es2, t3, gave⟩ := Z
    dsimp only at a1 a2 a3 a4 ⊢
    have few : es2.size < scanBound := by
      rw [← Array.length_toList, a1.length_eq, Array.length_toList]
      exact hb1
    refine wpAny_bind (hg _ _ _ (wpAny_bind (wpAny_storeSet_of at1 rfl ?_ (fits_of_scanBound few))))
    exact wpAny_pure (k _ (but1.trans (Heap.SameBut.update _ a _)) ⟨_, es2, _, t3, store_at (es' := es2) (t' := t3) at1 rfl, hex, rfl, fun e he => g1 e (a1.mem_iff.mp he), (a1.map _).trans p1, nd, few, a2, a3, hl.imp id fun z => by rw [a4]; exact z⟩)
  · exact wpAny_pure (k _ but1 ⟨_, es1, _, t2, at1, hex, rfl, g1, p1, nd, hb1, hf2, hr, hl⟩)
theorem addM {k : Key} {u : Value} {Q : Bool → Shared → Prop} (R : SetM P w s.heap a ks) (hk : keyIs k u = true) (sc : u.scannable = true) (room : ks.length + 1 < scanBound)
    (told : ∀ b h', Heap.SameBut a s.heap h' → SetM P w h' a (addK ks k) → Q b { s with heap := h' }) : wpAny (model P w) A (setAddHashed a u ((mixKind P w).hash k)) Q E s := by
  obtain ⟨o, es, ep, t, ho, hex, hd, g, pm, nd, hb, hf, hr, hl⟩ := R
  have el : ElemsOf (mixKind P w) es.toList := good_of g
  unfold setAddHashed setAddHashedIn
  refine wpAny_holding (wpAny_bind (wpAny_setState_of ho hd hf ?_))
  dsimp only
  rw [byScan_of sc hb el, if_pos rfl]
  unfold setAddByScan
  refine wpAny_bind (wpAny_bind (wpAny_rule (wpAny_bind (wpAny_setScan_of (knd := mixKind P w) hk ho hd hf el ?_))))
  cases hfi : List.findIdx? (fun e => (mixKind P w).is k e.2) es.toList with
  | some j =>
    dsimp only
    obtain ⟨hj, pj, _⟩ := List.findIdx?_eq_some_iff_getElem.mp hfi
    have there : k ∈ ks := pm.mem_iff.mp (List.mem_map.mpr ⟨es.toList[j], List.getElem_mem hj, kOf_is pj⟩)
    refine wpAny_pure (wpAny_pure ?_)
    refine told _ s.heap (Heap.SameBut.refl a s.heap) ?_
    unfold addK
    rw [if_pos (memK_iff.mpr there)]
    exact ⟨o, es, ep, t, ho, hex, hd, g, pm, nd, hb, hf, hr, hl⟩
  | none =>
    dsimp only
    have new : k ∉ ks := fun z => by
      obtain ⟨e, he, q⟩ := List.mem_map.mp (pm.mem_iff.mpr z)
      have c := List.findIdx?_eq_none_iff.mp hfi e he
      have d : (mixKind P w).is k e.2 = true := by
        rw [← q]
        exact (g e he).1
      rw [d] at c
      cases c
    have gave : ∀ (b : Bool) {s1 : Shared} {Q1 : Unit → Shared → Prop}, Q1 () s1 → wpAny (model P w) A (match b with | true => rule "set.scan.the-table-gave-way" | false => pure ()) Q1 E s1 := fun b _ _ q => by
      cases b
      · exact wpAny_pure q
      · exact wpAny_rule q
    have l1 := layNew_perm t es ((mixKind P w).hash k) u
    have l2 := layNew_fits t es ((mixKind P w).hash k) u
    have l3 := layNew_ris t es ((mixKind P w).hash k) u hr
    have l4 := layNew_led t es ((mixKind P w).hash k) u
    generalize layNew t es ((mixKind P w).hash k) u = Z at l1 l2 l3 l4 ⊢
    obtain ⟨es1, t1, was, way⟩ := Z
    dsimp only at l1 l2 l3 l4 ⊢
    rw [Array.toList_push] at l1
    have ku := kOf_is hk
    have g1 : ∀ e ∈ es1.toList, GoodM P w e := fun e he => by
      rcases List.mem_append.mp (l1.mem_iff.mp he) with z | z
      · exact g e z
      · rw [List.mem_singleton.mp z]
        exact ⟨by rw [ku]; exact hk, by rw [ku], sc⟩
    have p1 : (es1.toList.map fun e => kOf e.2).Perm (addK ks k) := by
      unfold addK
      rw [if_neg (fun z => new (memK_iff.mp z))]
      have z := l1.map fun e : Int × Value => kOf e.2
      rw [List.map_append, List.map_cons, List.map_nil, ku] at z
      exact z.trans (pm.append_right [k])
    have nd1 : (addK ks k).Nodup := by
      unfold addK
      rw [if_neg (fun z => new (memK_iff.mp z))]
      exact List.nodup_append.mpr ⟨nd, List.nodup_cons.mpr ⟨List.not_mem_nil, List.nodup_nil⟩, fun x hx y hy e => new (by rw [List.mem_singleton] at hy; rw [← hy, ← e]; exact hx)⟩
    have few : es1.size < scanBound := by
      have z := p1.length_eq
      unfold addK at z
      rw [if_neg (fun z => new (memK_iff.mp z)), List.length_map, Array.length_toList, List.length_append, List.length_singleton] at z
      omega
    have led1 : w.params.followText "set-order" = true ∨ t1.led = true := hl.imp id fun z => by rw [l4]; exact z
    refine wpAny_bind (gave _ ?_)
    split
    · refine wpAny_bind ?_
      rw [hashByValue_scannable 8 sc]
      refine wpAny_pure (addM_tail (fun b s1 Q1 q => gave b q) ho hex hd g1 p1 nd1 few ?_ ?_ ?_ fun h' sb r => ?_)
      · first | exact l2 | (split <;> first | exact l2 | exact SetTable.fits_plain_off l2)
      · first | exact l3 | (split <;> exact l3)
      · first | exact led1 | (split <;> exact led1)
      · dsimp only
        exact wpAny_pure (told _ h' sb r)
    · refine wpAny_bind (wpAny_pure ?_)
      simp only [↓reduceIte]
      refine addM_tail (fun b s1 Q1 q => gave b q) ho hex hd g1 p1 nd1 few l2 l3 led1 fun h' sb r => ?_
      dsimp only
      exact wpAny_pure (told _ h' sb r)
/-- the keys once each, as they come -/
def onceK (l : List Key) : List Key := l.foldl addK []
theorem onceK_snoc (l : List Key) (k : Key) : onceK (l ++ [k]) = addK (onceK l) k := by
  unfold onceK
  rw [List.foldl_append]
  rfl
theorem addK_len (l : List Key) (k : Key) : (addK l k).length ≤ l.length + 1 := by
  unfold addK
  split
  · omega
  · rw [List.length_append]
    exact Nat.le_refl _
theorem onceK_len (l : List Key) : (onceK l).length ≤ l.length := by
  have go : ∀ (l acc : List Key), (l.foldl addK acc).length ≤ acc.length + l.length := fun l => by
    induction l with
    | nil => exact fun acc => Nat.le_refl _
    | cons x l ih =>
      intro acc
      have z := ih (addK acc x)
      have y := addK_len acc x
      rw [List.foldl_cons, List.length_cons]
      omega
  have z := go l []
  rw [List.length_nil, Nat.zero_add] at z
  exact z
theorem fillM {I : Addr} {fp wr : List Addr} {G : Array GenState → Array GenState → Prop} {n : Nat} {Pv : Nat → Value → Prop} {St : Nat → Shared → Prop} {R : Result → Shared → Prop} (W : WalksS P w A.in1 I fp wr G n Pv St) (S : Addr) (away : S ∉ fp) (xs : List Key) (hn : n = xs.length) (hb : xs.length + 1 < scanBound)
    (val : ∀ i v, Pv i v → ∃ k, xs[i]? = some k ∧ keyIs k v = true ∧ v.scannable = true) : ∀ (m i : Nat) (s : Shared), n - i = m → i ≤ n → St i s → SetM P w s.heap S (onceK (xs.take i)) →
      (∀ s', Moved (S :: wr) G s s' → SetM P w s'.heap S (onceK xs) → R (.ok (.ret .none)) s') → codeAny (model P w) A (.builtin "set.update.loop" ⟨[.ref S, .ref I], []⟩) R s := by
  have out : S ∉ wr := fun h => away (W.sub _ h)
  have wider : ∀ b ∈ wr, b ∈ S :: wr := fun b hb => List.mem_cons_of_mem _ hb
  intro m
  induction m with
  | zero =>
    intro i s hm hi st set done
    have e : i = n := by omega
    subst e
    refine codeAny_builtin F.entry_set_update_loop ?_
    rw [Around.under_plainId F.plain_set_update_loop _]
    show wpAny _ A.in1 (pyNext (.ref I) >>= _) _ _ s
    refine wpAny_bind (W.done s _ _ st fun s' mv => ?_)
    show wpAny _ A.in1 (ret Value.none) _ _ s'
    rw [List.take_of_length_le (by omega)] at set
    exact wpAny_pure (done s' (mv.mono wider) (set.at fun o e => mv.heap S o out e))
  | succ m ih =>
    intro i s hm hi st set done
    have less : i < n := by omega
    refine codeAny_builtin F.entry_set_update_loop ?_
    rw [Around.under_plainId F.plain_set_update_loop _]
    show wpAny _ A.in1 (pyNext (.ref I) >>= _) _ _ s
    refine wpAny_bind (W.item i s _ _ less st fun v s' pv st' mv => ?_)
    obtain ⟨k, hk, is, sc⟩ := val i v pv
    have set' : SetM P w s'.heap S (onceK (xs.take i)) := set.at fun o e => mv.heap S o out e
    show wpAny _ A.in1 (holding [v] (setAdd S v) >>= _) _ _ s'
    refine wpAny_bind (wpAny_holding ?_)
    unfold setAdd
    refine wpAny_holding (wpAny_bind ((mixKind P w).pyHash (k := k) is ?_))
    have few : (onceK (xs.take i)).length + 1 < scanBound := by
      have z := onceK_len (xs.take i)
      rw [List.length_take] at z
      omega
    refine addM set' is sc few fun b h' sb set2 => ?_
    have li : i < xs.length := by omega
    have ei : xs[i] = k := by
      rw [List.getElem?_eq_getElem li] at hk
      exact Option.some.inj hk
    have set3 : SetM P w h' S (onceK (xs.take (i + 1))) := by
      rw [List.take_succ_eq_append_getElem li, ei, onceK_snoc]
      exact set2
    have keeps : ∀ c o, c ≠ S → s'.heap.get? c = some o → h'.get? c = some o := fun c o n e => (sb.2 c n).trans e
    refine wpAny_pure ⟨plainId_quiet F.plain_set_update_loop _, ih (i + 1) _ (by omega) less (W.frame _ s' _ _ st' (Nat.le_succ _) fun c hc o e => keeps c o (fun z => away (z ▸ hc)) e) set3 fun s2 mv2 set4 => ?_⟩
    exact done s2 (Moved.trans W.gtrans ((mv.mono wider).then_heap (Nat.le_succ _) fun c o hc e => keeps c o (fun z => hc (z ▸ List.mem_cons_self)) e) mv2) set4
/-- a set as it is made -/
abbrev newS (w : World) : Obj := { cls := .type "set", dict := none, data := .set #[] 0 (.fresh 0 0 (!w.params.followText "set-order")) }
theorem setM_none {h : Heap} (at' : h.get? a = some (newS w)) : SetM P w h a [] :=
  ⟨_, #[], 0, _, at', ⟨rfl, rfl, rfl⟩, rfl, fun e he => (by simp at he), .nil, List.nodup_nil, by decide, by rfl, List.Pairwise.nil, by
    show _ ∨ (!w.params.followText "set-order") = true
    cases w.params.followText "set-order" <;> first | exact .inl rfl | exact .inr rfl⟩
set_option maxHeartbeats 8000000 in
/-- set(xs) of a list -/
theorem setM_list {l : Addr} {its : Array Value} {xs : List Key} {Q : Value → Shared → Prop} (hh : A.handled = none) (hl : s.heap.IsList l its) (hz : its.size = xs.length) (hb : xs.length + 1 < scanBound) (each : ∀ (i : Nat) (v : Value), its[i]? = some v → ∃ k, xs[i]? = some k ∧ keyIs k v = true ∧ v.scannable = true)
    (told : ∀ (h' : Heap) (tk : Nat), SetM P w h' s.heap.objs.size (onceK xs) → (∀ b o, s.heap.get? b = some o → h'.get? b = some o) → Q (.ref s.heap.objs.size) { s with heap := h', toks := tk }) : wpAny (model P w) A (call (.type "set") [.ref l]) Q E s := by
  obtain ⟨c, tl, hmro⟩ := F.called_set.mro
  have made := F.called_set.made
  have sub0 := F.called_set.sub
  refine wpAny_call (codeAny_of_tree ?_)
  show wpAny _ _ (callAny (.type "set") _) _ _ _
  refine wpAny_pure ⟨Code.quiet_builtin _ (by decide +kernel), codeAny_builtin F.entry_type_call ?_⟩
  rw [Around.under_plain (weight_type_call_type "set" [.ref l] []) rfl]
  have n1 := F.called_set.notType
  have n2 := F.called_set.canCreate
  have n3 := F.typeCall_set_1 (.ref l)
  repeat (any_goals (first | assumption | wp_step))
  refine codeAny_mono (code_set_led1 (.ref l) (E := E) (Q₁ := fun obj s1 => obj = .ref s.heap.objs.size ∧ s1 = { s with heap := s.heap.push (newS w) }) ⟨rfl, rfl⟩) fun r s1 made1 => ?_
  match r, made1 with
  | .error e, z => exact z
  | .ok .next, z => exact z.elim
  | .ok .brk, z => exact z.elim
  | .ok .cont, z => exact z.elim
  | .ok (.ret obj), ⟨e1, e2⟩ =>
    subst e1 e2
    have at0 : (s.heap.push (newS w)).get? s.heap.objs.size = some (newS w) := Heap.get?_push_size _ rfl
    have ty0 : Shared.TypeIs { s with heap := s.heap.push (newS w) } (.ref s.heap.objs.size) "set" := ⟨_, at0, rfl⟩
    have i1 := F.called_set.init.lookup
    have i2 := F.called_set.init.bind (.ref s.heap.objs.size)
    repeat (any_goals (first | assumption | wp_step))
    refine codeAny_mono (codeAny_call_builtin (R := wants (fun r s2 => r = .none ∧ ∃ h' tk, s2 = { s with heap := h', toks := tk } ∧ SetM P w h' s.heap.objs.size (onceK xs) ∧ (∀ b o, s.heap.get? b = some o → h'.get? b = some o)) E) F.called_set.init.plain F.entry_set_init (check_set_init_1 ty0 ?_)) fun r2 s2 done => ?_
    · obtain ⟨⟨oc, od, odt, osl⟩, ho, hc, nl, hd⟩ := hl
      simp only at hc hd
      subst hc hd
      have ho1 : (s.heap.push (newS w)).get? l = some { cls := .type "list", dict := od, data := .seq its nl, slots := osl } := Heap.get?_push_of_some _ ho
      have q1 := F.sub_list_set
      have q2 := F.sub_list_frozenset
      have q3 : (Value.type "list" == Value.type "dict") = false := by decide
      have lst1 : (s.heap.push (newS w)).IsList l its := ⟨_, ho1, rfl, nl, rfl⟩
      unfold Builtin.«set.__init__» noKeywords Builtin.Frozenset.updateFrom
      generalize hPI : pyIter = PI
      wp_walk
      subst hPI
      refine wpAny_pyIter_list lst1 (wpAny_bind (wpAny_runValue ?_))
      have lt : l < s.heap.objs.size := Heap.lt_size ho
      have h3 : A.in1.in1.in1.handled = none := by simp [hh]
      have apart : l ≠ (s.heap.push (newS w)).objs.size := by
        rw [Heap.size_push]
        exact Nat.ne_of_lt (Nat.lt_succ_of_lt lt)
      have off : s.heap.objs.size ∉ [(s.heap.push (newS w)).objs.size, l] := fun z => by
        rw [Heap.size_push] at z
        rcases List.mem_cons.mp z with z | z
        · exact Nat.ne_of_lt (Nat.lt_succ_self _) z
        · exact Nat.ne_of_gt lt (List.mem_singleton.mp z)
      refine fillM ((Walks.list h3 _ l apart its).toS) s.heap.objs.size off xs hz hb each (its.size - 0) 0 _ (by omega) (Nat.zero_le _) ⟨⟨_, Heap.get?_push_size _ rfl, rfl, rfl⟩, (lst1.push _)⟩ ?start ?fin
      case start => exact setM_none (Heap.get?_push_of_some _ at0)
      case fin =>
        intro s3 mv set
        obtain ⟨h', g3, d3, tk3, os3⟩ := s3
        have eg : g3 = s.gens := mv.gens
        have ed : d3 = s.drawn := mv.drawn
        have eo : os3 = s.os := mv.os
        subst eg ed eo
        show wpAny _ _ _ _ _ _
        refine wpAny_pure ?_
        show wpAny _ _ (ret Value.none) _ _ _
        refine wpAny_pure ⟨rfl, h', tk3, rfl, set, fun b o e => mv.heap b o (fun z => ?_) (Heap.get?_push_of_some _ (Heap.get?_push_of_some _ e))⟩
        have lb : b < s.heap.objs.size := Heap.lt_size e
        rcases List.mem_cons.mp z with z | z
        · exact Nat.ne_of_lt lb z
        · rw [List.mem_singleton, Heap.size_push] at z
          exact Nat.ne_of_lt (Nat.lt_succ_of_lt lb) z
    · match r2, done with
      | .error e, z => exact z
      | .ok .next, z => exact z.elim
      | .ok .brk, z => exact z.elim
      | .ok .cont, z => exact z.elim
      | .ok (.ret r), ⟨e1, h', tk, e2, set, keep⟩ =>
        subst e1 e2
        repeat (any_goals (first | assumption | wp_step))
        exact told _ _ set keep
end
end Dl

/-! DU: sorted(set(..)) of ints, of texts. -/
namespace Dl
open PySem L2 Evl PyProof.Rows
open PySem.Spec (ltCps)
/-! ### one sorted order alone -/
theorem eq_of_sorted {α : Type} {r : α → α → Prop} (anti : ∀ a b, r a b → r b a → a = b) : ∀ {l1 l2 : List α}, l1.Perm l2 → l1.Pairwise r → l2.Pairwise r → l1 = l2
  | [], l2, p, _, _ => p.nil_eq
  | a :: l1, [], p, _, _ => absurd p.length_eq (by simp)
  | a :: l1, b :: l2, p, h1, h2 => by
    obtain ⟨x1, y1⟩ := List.pairwise_cons.mp h1
    obtain ⟨x2, y2⟩ := List.pairwise_cons.mp h2
    have e : a = b := by
      rcases List.mem_cons.mp (p.mem_iff.mp List.mem_cons_self) with q | q
      · exact q
      · rcases List.mem_cons.mp (p.mem_iff.mpr List.mem_cons_self) with z | z
        · exact z.symm
        · exact anti a b (x1 b z) (x2 a q)
    subst e
    rw [eq_of_sorted anti (p.cons_inv) y1 y2]
def leStr (x y : Str) : Bool := !ltCps y.cps.toList x.cps.toList
theorem leStr_iff {x y : Str} : leStr x y = true ↔ x.cps.toList ≤ y.cps.toList := by
  unfold leStr
  rw [ltCps_eq, Bool.not_eq_true', decide_eq_false_iff_not]
  exact List.not_lt
theorem leStr_trans {x y z : Str} (h1 : leStr x y = true) (h2 : leStr y z = true) : leStr x z = true := leStr_iff.mpr (List.le_trans (leStr_iff.mp h1) (leStr_iff.mp h2))
theorem leStr_total (x y : Str) : (leStr x y || leStr y x) = true := by
  rw [Bool.or_eq_true, leStr_iff, leStr_iff]
  exact List.le_total _ _
theorem leStr_anti (x y : Str) (h1 : leStr x y = true) (h2 : leStr y x = true) : x = y := by
  have e := List.le_antisymm (leStr_iff.mp h1) (leStr_iff.mp h2)
  obtain ⟨⟨a⟩⟩ := x
  obtain ⟨⟨c⟩⟩ := y
  have e : a = c := e
  rw [e]
theorem rising_pw : ∀ (l : List Str) (p : Str), risingS p l = true → (p :: l).Pairwise fun x y => leStr x y = true
  | [], p, _ => List.pairwise_singleton _ _
  | x :: l, p, h => by
    have h : (!ltCps x.cps.toList p.cps.toList && risingS x l) = true := h
    rw [Bool.and_eq_true] at h
    have ih := rising_pw l x h.2
    refine List.pairwise_cons.mpr ⟨fun y hy => ?_, ih⟩
    rcases List.mem_cons.mp hy with rfl | hy
    · exact h.1
    · exact leStr_trans h.1 ((List.pairwise_cons.mp ih).1 y hy)
theorem sorted_pw {l : List Str} (h : sortedS l = true) : l.Pairwise fun x y => leStr x y = true := by
  cases l with
  | nil => exact List.Pairwise.nil
  | cons x l => exact rising_pw l x h
def sortStr (l : List Str) : List Str := l.mergeSort leStr
def sortInt (l : List Int) : List Int := l.mergeSort fun x y => decide (x ≤ y)
theorem sortStr_one {l ys : List Str} (p : ys.Perm l) (h : sortedS ys = true) : ys = sortStr l :=
  eq_of_sorted (r := fun x y => leStr x y = true) leStr_anti (p.trans (List.mergeSort_perm _ _).symm) (sorted_pw h) (List.pairwise_mergeSort (le := leStr) (fun a b c => leStr_trans (x := a) (y := b) (z := c)) leStr_total l)
theorem sortInt_one {l ys : List Int} (p : ys.Perm l) (h : ys.Pairwise (· ≤ ·)) : ys = sortInt l :=
  eq_of_sorted (r := fun x y => x ≤ y) (fun _ _ => Int.le_antisymm) (p.trans (List.mergeSort_perm _ _).symm) h ((List.pairwise_mergeSort (le := fun x y : Int => decide (x ≤ y)) (fun a b c h1 h2 => decide_eq_true (Int.le_trans (of_decide_eq_true h1) (of_decide_eq_true h2))) (fun a b => by rcases Int.le_total a b with z | z <;> simp [z]) l).imp fun h => of_decide_eq_true h)
/-! ### the set, tracked -/
def SetMO (P : Program) (w : World) (a : Addr) (ks : List Key) : HO := .ext fun h => SetM P w h a ks
theorem setMO_new {w : World} {P : Program} {H : Hp} {h : Heap} {a : Addr} {ks : List Key} (R : SetM P w h a ks) : ObjOk P w H h a (SetMO P w a ks) := by
  have ⟨o, _, _, _, ho, _⟩ := R
  exact ⟨R, ⟨o, ho⟩, fun h1 h2 q k => SetM.at q k⟩
section
variable {X : Cx} {b : Addr} {pos p p2 pos2 : Pos} {e : Expr} {f : DE}
def rSetM (K : PySem.W.Frag) (P : Program) (w : World) : List V → Hp → VK → Prop := fun xs H Q => ∃ (l : Addr) (ks : List Key), xs = [.ref l] ∧ SqL K H l (ks.map kV) ∧ ks.length + 1 < scanBound ∧ ∀ q, H q = none → Q (.ref q) (upd H q (SetMO P w q (onceK ks)))
theorem scan_of {k : Key} {u : Value} (r : RelV (kV k) u) : u.scannable = true := by
  cases k with
  | inl i =>
    obtain ⟨t, rfl⟩ := r
    rfl
  | inr x =>
    obtain ⟨t, rfl⟩ := r
    rfl
theorem call_setM (hc : X.calm = true) : CallR X (.type "set") (rSetM X.K X.prog X.w) := by
  intro pins s σ H xs us Q I r told
  obtain ⟨l, ks, rfl, at', few, k⟩ := told
  rw [Vals.ref1 r]
  obtain ⟨its, rv, pl, _⟩ := I.list at'
  refine setM_list (P := X.prog) (I.ok.hd hc) pl.isList (by rw [List.size_toArray, ← rv.length, List.length_map]) few (fun i v hv => ?_) fun h' tk set keep => ?_
  · have li : i < ks.length := by
      have z := (Array.getElem?_eq_some_iff.mp hv).1
      rw [List.size_toArray, ← rv.length, List.length_map] at z
      exact z
    obtain ⟨u, hu, ru⟩ := rv.get (i := i) (x := kV ks[i]) (by simp [li])
    have e : v = u := by
      rw [List.getElem?_toArray, hu] at hv
      exact (Option.some.inj hv).symm
    subst e
    exact ⟨ks[i], List.getElem?_eq_getElem li, kV_is (P := X.prog) (w := X.w) ru, scan_of ru⟩
  · exact ⟨.ref s.heap.objs.size, _, I.laid (t' := tk) keep (Nat.le_refl _) (setMO_new set), rfl, k _ (I.hok.fresh (Nat.le_refl _))⟩
def strsK : List Key → Option (List Str)
  | [] => some []
  | .inr x :: ks => (strsK ks).map fun l => x :: l
  | _ => none
def intsK : List Key → Option (List Int)
  | [] => some []
  | .inl x :: ks => (intsK ks).map fun l => x :: l
  | _ => none
theorem strsK_eq : ∀ {ks : List Key} {l : List Str}, strsK ks = some l → ks = l.map Sum.inr
  | [], _, h => by
    cases h
    rfl
  | .inl _ :: _, _, h => by cases h
  | .inr x :: ks, l, h => by
    have h : (strsK ks).map (fun l => x :: l) = some l := h
    cases h2 : strsK ks with
    | none => rw [h2] at h; cases h
    | some l2 =>
      rw [h2] at h
      cases h
      rw [strsK_eq h2]
      rfl
theorem intsK_eq : ∀ {ks : List Key} {l : List Int}, intsK ks = some l → ks = l.map Sum.inl
  | [], _, h => by
    cases h
    rfl
  | .inr _ :: _, _, h => by cases h
  | .inl x :: ks, l, h => by
    have h : (intsK ks).map (fun l => x :: l) = some l := h
    cases h2 : intsK ks with
    | none => rw [h2] at h; cases h
    | some l2 =>
      rw [h2] at h
      cases h
      rw [intsK_eq h2]
      rfl
theorem strs_of_keys : ∀ {vs : List Value} {l : List Str}, (∀ v ∈ vs, keyIs (kOf v) v = true) → vs.map kOf = l.map Sum.inr → StrsAre vs l
  | [], [], _, _ => .nil
  | [], _ :: _, _, h => nomatch h
  | _ :: _, [], _, h => nomatch h
  | v :: vs, x :: l, g, h => by
    rw [List.map_cons, List.map_cons] at h
    injection h with h1 h2
    have g1 := g v List.mem_cons_self
    rw [h1] at g1
    obtain ⟨t, rfl⟩ := Value.isStrOf_shape (x := x) (v := v) g1
    exact .cons x t (strs_of_keys (fun u hu => g u (List.mem_cons_of_mem _ hu)) h2)
theorem ints_of_keys : ∀ {vs : List Value} {l : List Int}, (∀ v ∈ vs, keyIs (kOf v) v = true) → vs.map kOf = l.map Sum.inl → IntsAre vs l
  | [], [], _, _ => .nil
  | [], _ :: _, _, h => nomatch h
  | _ :: _, [], _, h => nomatch h
  | v :: vs, x :: l, g, h => by
    rw [List.map_cons, List.map_cons] at h
    injection h with h1 h2
    have g1 := g v List.mem_cons_self
    rw [h1] at g1
    obtain ⟨t, rfl⟩ := Value.isInt_shape (k := x) (v := v) g1
    exact .cons x t (ints_of_keys (fun u hu => g u (List.mem_cons_of_mem _ hu)) h2)
def dropR : Key → Str
  | .inr x => x
  | .inl _ => Str.empty
def dropL : Key → Int
  | .inl x => x
  | .inr _ => 0
theorem inr_perm : ∀ {l : List Key} {zs : List Str}, l.Perm (zs.map Sum.inr) → ∃ ys : List Str, l = ys.map Sum.inr ∧ ys.Perm zs := fun {l zs} p => by
  have all : ∀ k ∈ l, ∃ x : Str, k = Sum.inr x := fun k hk => by
    obtain ⟨x, _, e⟩ := List.mem_map.mp (p.mem_iff.mp hk)
    exact ⟨x, e.symm⟩
  have come : ∀ l : List Key, (∀ k ∈ l, ∃ x : Str, k = Sum.inr x) → ∃ ys : List Str, l = ys.map Sum.inr := fun l => by
    induction l with
    | nil => exact fun _ => ⟨[], rfl⟩
    | cons k l ih =>
      intro h
      obtain ⟨x, rfl⟩ := h k List.mem_cons_self
      obtain ⟨ys, rfl⟩ := ih fun j hj => h j (List.mem_cons_of_mem _ hj)
      exact ⟨x :: ys, rfl⟩
  obtain ⟨ys, rfl⟩ := come l all
  have back : ∀ l : List Str, (l.map (Sum.inr : Str → Key)).map dropR = l := fun l => by
    rw [List.map_map]
    exact List.map_id l
  have z := p.map dropR
  rw [back, back] at z
  exact ⟨ys, rfl, z⟩
theorem inl_perm : ∀ {l : List Key} {zs : List Int}, l.Perm (zs.map Sum.inl) → ∃ ys : List Int, l = ys.map Sum.inl ∧ ys.Perm zs := fun {l zs} p => by
  have all : ∀ k ∈ l, ∃ x : Int, k = Sum.inl x := fun k hk => by
    obtain ⟨x, _, e⟩ := List.mem_map.mp (p.mem_iff.mp hk)
    exact ⟨x, e.symm⟩
  have come : ∀ l : List Key, (∀ k ∈ l, ∃ x : Int, k = Sum.inl x) → ∃ ys : List Int, l = ys.map Sum.inl := fun l => by
    induction l with
    | nil => exact fun _ => ⟨[], rfl⟩
    | cons k l ih =>
      intro h
      obtain ⟨x, rfl⟩ := h k List.mem_cons_self
      obtain ⟨ys, rfl⟩ := ih fun j hj => h j (List.mem_cons_of_mem _ hj)
      exact ⟨x :: ys, rfl⟩
  obtain ⟨ys, rfl⟩ := come l all
  have back : ∀ l : List Int, (l.map (Sum.inl : Int → Key)).map dropL = l := fun l => by
    rw [List.map_map]
    exact List.map_id l
  have z := p.map dropL
  rw [back, back] at z
  exact ⟨ys, rfl, z⟩
/-- the new list that sorted lays -/
theorem laidS {pins : List (Addr × Obj)} {σ : L2.St} {H : Hp} {s s1 s2 : Shared} {vs : List Value} {out : Array Value} {xs : List V} {Q : VK} (I : Inv X pins σ H s) (k1 : ∀ b o, s.heap.get? b = some o → s1.heap.get? b = some o) (hz : s.heap.objs.size ≤ s1.heap.objs.size) (g1 : s1.gens = s.gens) (o1 : s1.os = s.os)
    (at' : (s1.heap.push (seqObj "list" vs.toArray 0)).get? s1.heap.objs.size = some (seqObj "list" vs.toArray 0)) (e2 : s2.heap = sortedHeap (s1.heap.push (seqObj "list" vs.toArray 0)) s1.heap.objs.size vs out) (e3 : s2.gens = s1.gens) (e4 : s2.os = s1.os) (rel : Vals xs out.toList) (few : xs.length ≤ sizeLine)
    (k : ∀ q, H q = none → Q (.ref q) (upd H q (.lst xs))) : EP X pins σ Q (.ref s1.heap.objs.size) s2 := by
  obtain ⟨c, hc⟩ := sortedHeap_at (vs := vs) (out := out) at'
  have fresh : H s1.heap.objs.size = none := I.hok.fresh hz
  have keep : ∀ b u, s.heap.get? b = some u → s2.heap.get? b = some u := fun b u e => by
    have q := k1 b u e
    have lt := Heap.lt_size q
    rw [e2, sortedHeap_old (Nat.ne_of_lt lt) (by rw [size_push']; exact Nat.lt_succ_of_lt lt)]
    exact Heap.get?_push_of_some _ q
  have new : ObjOk X.prog X.w (upd H s1.heap.objs.size (.lst xs)) s2.heap s1.heap.objs.size (.lst xs) := ⟨few, out.toList, c, rel, by rw [e2, Array.toArray_toList]; exact hc⟩
  exact ⟨.ref s1.heap.objs.size, _, I.call' (s' := s2) (ch := []) (e4.trans o1) (Un.laid keep hz fresh) (I.hok.laid keep hz new) (by rw [e3, g1]; exact I.bare) (fun _ z => nomatch z), rfl, k _ fresh⟩
def rSortMS (P : Program) (w : World) : List V → Hp → VK → Prop := fun xs H Q => ∃ (a : Addr) (zs : List Str), xs = [.ref a] ∧ H a = some (SetMO P w a (zs.map Sum.inr)) ∧ zs.length < 64 ∧ ∀ q, H q = none → Q (.ref q) (upd H q (.lst ((sortStr zs).map V.str)))
theorem call_sortMS (hc : X.calm = true) : CallR X (.builtin "sorted") (rSortMS X.prog X.w) := by
  intro pins s σ H xs us Q I r told
  obtain ⟨a, zs, rfl, ha, few, k⟩ := told
  have R : SetM X.prog X.w s.heap a (zs.map Sum.inr) := (I.hok a _ ha).1
  rw [Vals.ref1 r]
  obtain ⟨o, es, ep, t, ho, hex, hd, g, pm0, nd, hb, hf, hr, hl⟩ := R
  refine Calls.call_function_entry kind_sorted plain_sorted entry_sorted (args_sorted1 _) ?_
  unfold Builtin.«sorted»
  refine wpAny_bind (m := checkCount "sorted" 1 1 _) (wpAny_pure (wpAny_bind (collect_set (A := X.A.in1) (I.ok.hd hc) ⟨o, ho, hex.1, hd⟩ hf hb hr hl fun s1 vs k1 hz g1 o1 pm => ?_)))
  have good : ∀ v ∈ vs, keyIs (kOf v) v = true := fun v hv => by
    obtain ⟨e, he, rfl⟩ := List.mem_map.mp (pm.mem_iff.mp hv)
    exact (g e he).1
  have keys : (vs.map kOf).Perm (zs.map Sum.inr) := by
    have z := pm.map kOf
    rw [List.map_map] at z
    exact z.trans pm0
  obtain ⟨ys, e1, p1⟩ := inr_perm keys
  have hS : StrsAre vs ys := strs_of_keys good e1
  have len : vs.length = zs.length := by
    have z := keys.length_eq
    rw [List.length_map, List.length_map] at z
    exact z
  refine wpAny_bind (wpAny_newList ?_ (by rw [len]; exact sz_of (by omega)))
  have at' : (s1.heap.push (seqObj "list" vs.toArray 0)).get? s1.heap.objs.size = some (seqObj "list" vs.toArray 0) := Heap.get?_push_size _ rfl
  show wpAny _ _ _ _ _ { s1 with heap := s1.heap.push (seqObj "list" vs.toArray 0) }
  refine wpAny_bind (wpAny_holding (wpAny_call_entry slot_list_sort ⟨_, at', rfl⟩ entry_list_sort (list_sort_treeK strKind_oneLt (s := { s1 with heap := s1.heap.push (seqObj "list" vs.toArray 0) }) at' hS.keysOf (fun v1 v2 rest e => keyKind_strs (by rw [← e]; exact hS)) (by rw [len]; exact few) fun st hp hs => ⟨_, rfl, ?_⟩) (args_list_sort _)))
  obtain ⟨ws, w1, w2, w3⟩ := sorted_out_str hS hp hs
  have ew : ws = sortStr zs := sortStr_one (w2.trans p1) w3
  subst ew
  refine wpAny_pure ⟨_, rfl, laidS (vs := vs) (out := (arrOf st).map (·.2)) I k1 hz g1 o1 at' rfl rfl rfl (vals_of_strs w1) ?_ k⟩
  rw [List.length_map, w2.length_eq, p1.length_eq]
  exact sz_of (by omega)
def rSortMI (P : Program) (w : World) : List V → Hp → VK → Prop := fun xs H Q => ∃ (a : Addr) (zs : List Int), xs = [.ref a] ∧ H a = some (SetMO P w a (zs.map Sum.inl)) ∧ zs.length < 64 ∧ ∀ q, H q = none → Q (.ref q) (upd H q (.lst ((sortInt zs).map V.int)))
theorem call_sortMI (hc : X.calm = true) : CallR X (.builtin "sorted") (rSortMI X.prog X.w) := by
  intro pins s σ H xs us Q I r told
  obtain ⟨a, zs, rfl, ha, few, k⟩ := told
  have R : SetM X.prog X.w s.heap a (zs.map Sum.inl) := (I.hok a _ ha).1
  rw [Vals.ref1 r]
  obtain ⟨o, es, ep, t, ho, hex, hd, g, pm0, nd, hb, hf, hr, hl⟩ := R
  refine Calls.call_function_entry kind_sorted plain_sorted entry_sorted (args_sorted1 _) ?_
  unfold Builtin.«sorted»
  refine wpAny_bind (m := checkCount "sorted" 1 1 _) (wpAny_pure (wpAny_bind (collect_set (A := X.A.in1) (I.ok.hd hc) ⟨o, ho, hex.1, hd⟩ hf hb hr hl fun s1 vs k1 hz g1 o1 pm => ?_)))
  have good : ∀ v ∈ vs, keyIs (kOf v) v = true := fun v hv => by
    obtain ⟨e, he, rfl⟩ := List.mem_map.mp (pm.mem_iff.mp hv)
    exact (g e he).1
  have keys : (vs.map kOf).Perm (zs.map Sum.inl) := by
    have z := pm.map kOf
    rw [List.map_map] at z
    exact z.trans pm0
  obtain ⟨ys, e1, p1⟩ := inl_perm keys
  have hI : IntsAre vs ys := ints_of_keys good e1
  have len : vs.length = zs.length := by
    have z := keys.length_eq
    rw [List.length_map, List.length_map] at z
    exact z
  refine wpAny_bind (wpAny_newList ?_ (by rw [len]; exact sz_of (by omega)))
  have at' : (s1.heap.push (seqObj "list" vs.toArray 0)).get? s1.heap.objs.size = some (seqObj "list" vs.toArray 0) := Heap.get?_push_size _ rfl
  refine wpAny_bind (wpAny_holding (wpAny_call_entry slot_list_sort ⟨_, at', rfl⟩ entry_list_sort (list_sort_tree at' hI (by rw [len]; exact few) fun out ws a1 a2 a3 => ⟨_, rfl, ?_⟩) (args_list_sort _)))
  have ew : ws = sortInt zs := sortInt_one (a2.trans p1) a3
  subst ew
  refine wpAny_pure ⟨_, rfl, laidS (vs := vs) (out := out) I k1 hz g1 o1 at' rfl rfl rfl (vals_of_ints a1) ?_ k⟩
  rw [List.length_map, a2.length_eq, p1.length_eq]
  exact sz_of (by omega)
/-! ### the whole expression -/
def sortK (ks : List Key) : Option (List PyData) := match strsK ks with
  | some zs => some ((sortStr zs).map PyData.str)
  | none => (intsK ks).map fun zs => (sortInt zs).map PyData.int
def dSortSet (f : DE) : DEO := fun env B => (f env B).bind fun p => match p.1 with
  | .list ds => (keysD ds).bind fun ks => if ks.length ≤ 1000 ∧ (onceK ks).length < 64 then (sortK (onceK ks)).map fun es => (.l es, p.2) else none
  | _ => none
theorem pdn_sortSet (hc : X.calm = true) (h1 : X.mg "sorted" = none) (g1 : Gl X "sorted") (h2 : X.mg "set" = none) (g2 : Gl X "set") (h : PD X b e f) (he : starEach [e] X.env = (false, eval e X.env) :: starEach [] X.env := by rfl)
    (he2 : starEach [Expr.Call (.Name "set" p2) [e] [] pos2] X.env = (false, eval (.Call (.Name "set" p2) [e] [] pos2) X.env) :: starEach [] X.env := by rfl) :
    PDN X b (.Call (.Name "sorted" p) [.Call (.Name "set" p2) [e] [] pos2] [] pos) (dSortSet f) := by
  have inner := pe_callTy (p := p2) (pos := pos2) (call_setM hc) g2 h2 (by decide +kernel) (pa_cons h pa_nil he) (by decide) (by decide) he (by rfl)
  have w1 := pe_callB (p := p) (pos := pos) (call_sortMS hc) g1 h1 (by decide +kernel) (pa_cons inner pa_nil he2) (by decide) (by decide) he2 (by rfl)
  have w2 := pe_callB (p := p) (pos := pos) (call_sortMI hc) g1 h1 (by decide +kernel) (pa_cons inner pa_nil he2) (by decide) (by decide) he2 (by rfl)
  refine PE.imp (pe_or w1 w2) fun σ H Q ⟨G, env, B, c, B', s, ev, k⟩ => ?_
  unfold dSortSet at ev
  cases q1 : f env B with
  | none => rw [q1] at ev; cases ev
  | some q =>
    obtain ⟨a, B1⟩ := q
    rw [q1, Option.bind_some] at ev
    dsimp only at ev
    split at ev
    · rename_i ds
      cases q2 : keysD ds with
      | none => rw [q2] at ev; cases ev
      | some ks =>
        rw [q2, Option.bind_some] at ev
        split at ev
        · rename_i small
          have few : ks.length + 1 < scanBound := by
            unfold scanBound
            omega
          cases q3 : strsK (onceK ks) with
          | some zs =>
            unfold sortK at ev
            rw [q3] at ev
            cases ev
            have ez := strsK_eq q3
            have lz : zs.length < 64 := by
              have z := congrArg List.length ez
              rw [List.length_map] at z
              omega
            refine .inl ⟨G, env, B, _, _, s, q1, fun v G1 H1 fr ex bg is => ?_⟩
            cases is with
            | @lst l vs _ ha hl =>
              have ek := hl.keys q2
              subst ek
              refine ⟨l, ks, rfl, sq_of (ex _ _ ha), few, fun q hq => ⟨q, zs, rfl, by rw [upd_same, ez], lz, fun r hr => ?_⟩⟩
              obtain ⟨f1, f2, f3⟩ := pair_frm (K := X.K) (o := SetMO X.prog X.w q (onceK ks)) ex bg hq
              exact (k.go (fr.trans f1 f3.1)).new f2 f3 hr ⟨_, rfl, IsL.strs _⟩
          | none =>
            unfold sortK at ev
            rw [q3] at ev
            cases q4 : intsK (onceK ks) with
            | none => rw [q4] at ev; cases ev
            | some zs =>
              rw [q4] at ev
              cases ev
              have ez := intsK_eq q4
              have lz : zs.length < 64 := by
                have z := congrArg List.length ez
                rw [List.length_map] at z
                omega
              refine .inr ⟨G, env, B, _, _, s, q1, fun v G1 H1 fr ex bg is => ?_⟩
              cases is with
              | @lst l vs _ ha hl =>
                have ek := hl.keys q2
                subst ek
                refine ⟨l, ks, rfl, sq_of (ex _ _ ha), few, fun q hq => ⟨q, zs, rfl, by rw [upd_same, ez], lz, fun r hr => ?_⟩⟩
                obtain ⟨f1, f2, f3⟩ := pair_frm (K := X.K) (o := SetMO X.prog X.w q (onceK ks)) ex bg hq
                exact (k.go (fr.trans f1 f3.1)).new f2 f3 hr ⟨_, rfl, IsL.ints _⟩
        · cases ev
    · cases ev
end
end Dl

/-! DV: sum(xs, []) of an empty list: the start. -/
namespace Dl
open PySem L2 Evl PyProof.Rows
theorem sum_two (a c : Value) : argsOk "sum" ⟨[a, c], []⟩ := by unfold argsOk; kernel_rfl
section
variable {P : Program} {w : World} {A : Around} {E : Value → Shared → Prop} {s : Shared}
set_option maxHeartbeats 8000000 in
theorem sum_none {l c : Addr} {Q : Value → Shared → Prop} (hh : A.handled = none) (hl : s.heap.IsList l #[]) (hc : s.TypeIs (.ref c) "list")
    (told : ∀ (h' : Heap) (tk : Nat), (∀ b o, s.heap.get? b = some o → h'.get? b = some o) → Q (.ref c) { s with heap := h', toks := tk }) : wpAny (model P w) A (call (.builtin "sum") [.ref l, .ref c]) Q E s := by
  refine call_function_tree F.kind_sum F.plain_sum F.entry_sum (sum_two _ _) ?_
  unfold Builtin.«sum»
  simp only [List.length_cons, List.length_nil]
  rw [if_neg (by decide)]
  refine wpAny_bind (wpAny_of_eq (show Builtin.Builtins.bindParams "sum" ["start"] 0 ⟨[Value.ref c], []⟩ = pure [some (Value.ref c)] from rfl) ?_)
  refine wpAny_bind (wpAny_pyIter_list hl ?_)
  have ty1 : ∀ o, Shared.TypeIs { s with heap := s.heap.push o } (.ref c) "list" := fun o => let ⟨u, q, z⟩ := hc; ⟨u, Heap.get?_push_of_some _ q, z⟩
  dsimp only
  refine wpAny_bind (wpAny_pure ?_)
  simp only [List.forIn_cons, List.forIn_nil]
  refine wpAny_bind (wpAny_bind (wpAny_bind (wpAny_isInstance (T := "list") (b := false) (ty1 _) F.sub_list_str ?_)))
  simp only [Bool.false_eq_true, if_false]
  refine wpAny_pure (wpAny_bind (wpAny_bind (wpAny_isInstance (T := "list") (b := false) (ty1 _) F.sub_list_bytes ?_)))
  simp only [Bool.false_eq_true, if_false]
  refine wpAny_pure (wpAny_bind (wpAny_bind (wpAny_isInstance (T := "list") (b := false) (ty1 _) F.sub_list_bytearray ?_)))
  simp only [Bool.false_eq_true, if_false]
  refine wpAny_pure (wpAny_pure (wpAny_bind (wpAny_newObj_type ?_)))
  refine wpAny_pure ⟨plainId_quiet F.plain_sum_loop _, codeAny_builtin F.entry_sum_loop ?_⟩
  rw [Around.under_plainId F.plain_sum_loop _]
  show wpAny _ A.in1 (seqItems? _ >>= _) _ _ _
  refine wpAny_bind (wpAny_seqItems (Heap.get?_push_size _ rfl) rfl ?_)
  show wpAny _ A.in1 (tryCatch (pyNext (.ref s.heap.objs.size)) _ >>= _) _ _ _
  have keep2 : ∀ o1 o2 b u, s.heap.get? b = some u → ((s.heap.push o1).push o2).get? b = some u := fun o1 o2 b u q => Heap.get?_push_of_some _ (Heap.get?_push_of_some _ q)
  refine wpAny_bind (wpAny_tryCatch (wpAny_pyNext_list_end hh (it := s.heap.objs.size) (l := l) (i := 0) (items := #[]) ⟨_, Heap.get?_push_of_some _ (Heap.get?_push_size _ rfl), rfl, rfl⟩ (hl.at fun o q => keep2 _ _ _ _ q) rfl fun h' ext => ?_))
  exact wpAny_pure (told h' _ fun b o q => ext b o (Nat.ne_of_lt (Heap.lt_size q)) (keep2 _ _ b o q))
end
section
variable {X : Cx} {b : Addr} {pos p : Pos} {e e2 : Expr} {as : List DAr}
def rSum0 (K : PySem.W.Frag) : List V → Hp → VK → Prop := fun xs H Q => ∃ (l c : Addr) (ys : List V), xs = [.ref l, .ref c] ∧ SqL K H l [] ∧ SqL K H c ys ∧ Q (.ref c) H
theorem call_sum0 (hc : X.calm = true) : CallR X (.builtin "sum") (rSum0 X.K) := by
  intro pins s σ H xs us Q I r told
  obtain ⟨l, c, ys, rfl, h1, h2, k⟩ := told
  have two : us = [.ref l, .ref c] := by
    cases r with
    | cons x1 x2 =>
      cases x2 with
      | cons y1 y2 =>
        cases y2
        cases x1
        cases y1
        rfl
  subst two
  obtain ⟨it1, rv1, pl1, _⟩ := I.list h1
  obtain ⟨it2, rv2, pl2, _⟩ := I.list h2
  cases rv1
  exact sum_none (P := X.prog) (I.ok.hd hc) pl1.isList pl2.isList.typeIs fun h' tk keep => ⟨.ref c, H, I.kept (t' := tk) keep, rfl, k⟩
def gSum0 : List PyData → Option PyData
  | [.list [], .list ds] => some (.list ds)
  | _ => none
theorem r_sum0 {K : PySem.W.Frag} : RLD K (rSum0 K) gSum0 := fun b G H xs as d B Q ex bg is eg k => by
  unfold gSum0 at eg
  split at eg
  · cases eg
    cases is with
    | cons h1 r =>
      cases r with
      | cons h2 r =>
        cases r
        cases h1 with
        | lst a1 l1 =>
          cases l1
          cases h2 with
          | lst a2 l2 => exact ⟨_, _, _, rfl, sq_of (ex _ _ a1), sq_of (ex _ _ a2), k.val ex bg (.lst a2 l2)⟩
  · cases eg
theorem pd_sum0 (hc : X.calm = true) (hm : X.mg "sum" = none) (hg : Gl X "sum") (ha : PDA X b [e, e2] as) (he : starEach [e, e2] X.env = (false, eval e X.env) :: starEach [e2] X.env := by rfl) (hpl : (backTo pos (starEach [e2] X.env)).any (·.1) = false := by rfl) : PD X b (.Call (.Name "sum" p) [e, e2] [] pos) (dCB gSum0 as) := pd_cb (call_sum0 hc) r_sum0 hg hm (by decide +kernel) ha (by decide) (by decide) he hpl
end
end Dl

/-! DW: sorted(d.values()) of texts. -/
namespace Dl
open PySem L2 Evl PyProof.Rows
def ViewO (q d : Addr) : HO := .ext fun h => h.IsValuesView q d
theorem viewO_new {P : Program} {w : World} {H : Hp} {h : Heap} {q d : Addr} (R : h.IsValuesView q d) : ObjOk P w H h q (ViewO q d) := by
  have ⟨o, ho, r⟩ := R
  exact ⟨R, ⟨o, ho⟩, fun h1 h2 ⟨u, z, r⟩ k => ⟨u, k u z, r⟩⟩
section
variable {X : Cx} {b : Addr} {pos p cpos apos : Pos} {e : Expr} {f : DE}
def tVals (td : TE) : TE := fun σ H Q => td σ H fun x H1 => ∃ d kvs, x = .ref d ∧ H1 d = some (.dK kvs) ∧ ∀ q, H1 q = none → Q (.ref q) (upd H1 q (ViewO q d))
theorem pe_vals {td : TE} (h : PE X e td) (hb : attributeBase e "values" X.env (eval e X.env) = eval e X.env := by rfl) (line : (apos.endLine == cpos.line) = true := by rfl) : PE X (.Call (.Attribute e "values" apos) [] [] cpos) (tVals td) := by
  constructor
  intro pins s σ H Q I told
  refine wpAny_Call_method (T := "dict") (id := "dict.values") hb rfl line F.plainAttrs_dict F.slot_dict_values F.type_dict_values (thn (h.run pins s σ H _ I told) fun u s1 ⟨x, H1, I1, rx, d, kvs, ex, hd, k⟩ => ?_)
  subst ex
  cases rx
  obtain ⟨_, lo, vs, rel, dd⟩ := dk_of I1.hok hd
  refine ⟨dd.typeIs, dd.mapOf.noDict, ?_⟩
  have done : EP X pins σ Q (.ref s1.heap.objs.size) { s1 with heap := s1.heap.push { cls := .type "dict_values", data := .fields #[.ref d] } } :=
    ⟨.ref s1.heap.objs.size, upd H1 s1.heap.objs.size (ViewO s1.heap.objs.size d), I1.laid (t' := s1.toks) (fun _ _ q => Heap.get?_push_of_some _ q) (Nat.le_refl _) (viewO_new ⟨_, Heap.get?_push_size _ rfl, rfl, rfl⟩), rfl, k _ (I1.hok.fresh (Nat.le_refl _))⟩
  show wpAny _ _ (callWith cpos (.builtin "dict.values") [.ref d] [] []) _ X.xe s1
  exact method_meetsIn F.slot_dict_values F.entry_dict_values rfl (PySem.evalArgs_none ⟨rfl, dd.typeIs, F.args_dict_values_1 _, _, meets_dict_values (mixKind X.prog X.w) d lo, ⟨vs, dd⟩, done⟩)
theorem kv_vals : ∀ {kvs : List (Key × V)} {vs : List (Key × Value)}, KV kvs vs → Vals (kvs.map (·.2)) (vs.map (·.2))
  | _, _, .nil => .nil
  | _, _, .cons h t => .cons h.2 (kv_vals t)
def rSortV : List V → Hp → VK → Prop := fun xs H Q => ∃ (q d : Addr) (kvs : List (Key × V)) (zs : List Str), xs = [.ref q] ∧ H q = some (ViewO q d) ∧ H d = some (.dK kvs) ∧ kvs.map (·.2) = zs.map V.str ∧ zs.length < 64 ∧ ∀ r, H r = none → Q (.ref r) (upd H r (.lst ((sortStr zs).map V.str)))
theorem call_sortV (hc : X.calm = true) : CallR X (.builtin "sorted") rSortV := by
  intro pins s σ H xs us Q I r told
  obtain ⟨q, d, kvs, zs, rfl, hq, hd, ez, few, k⟩ := told
  rw [Vals.ref1 r]
  have view : s.heap.IsValuesView q d := (I.hok q _ hq).1
  obtain ⟨z, lo, vs, rel, dd⟩ := dk_of I.hok hd
  obtain ⟨ep, hat⟩ := dd.dictAt
  have lv : vs.length = zs.length := by
    have z := congrArg List.length ez
    rw [List.length_map, List.length_map, rel.length] at z
    exact z
  refine Calls.call_function_entry kind_sorted plain_sorted entry_sorted (args_sorted1 _) ?_
  unfold Builtin.«sorted»
  refine wpAny_bind (m := checkCount "sorted" 1 1 _) (wpAny_pure (wpAny_bind (PySem.W.kdu_collect (A := X.A.in1) (PySem.W.kdl_values (knd := mixKind X.prog X.w) (kvs := vs) (ep := ep)) (I.ok.hd hc) ⟨view, hat⟩ (by rw [lv]; exact sz_of (by omega)) fun h' tk acc k1 items => ?_)))
  have ea : acc.toList = vs.map (·.2) := by
    apply List.ext_getElem?
    intro i
    by_cases hi : i < vs.length
    · have li : i < acc.size := by rw [items.1]; exact hi
      obtain ⟨key, e⟩ := items.2 i acc[i] (Array.getElem?_eq_getElem li)
      rw [Array.getElem?_toList, Array.getElem?_eq_getElem li, List.getElem?_map, e]
      rfl
    · rw [List.getElem?_eq_none (by rw [Array.length_toList, items.1]; omega), List.getElem?_eq_none (by rw [List.length_map]; omega)]
  have hS : StrsAre acc.toList zs := by
    rw [ea]
    have z := kv_vals rel
    rw [ez] at z
    exact strsAre_of z
  have len : acc.toList.length = zs.length := by
    rw [ea, List.length_map]
    exact lv
  generalize acc.toList = ws at hS len ⊢
  refine wpAny_bind (wpAny_newList ?_ (by rw [len]; exact sz_of (by omega)))
  have at' : (h'.push (seqObj "list" ws.toArray 0)).get? h'.objs.size = some (seqObj "list" ws.toArray 0) := Heap.get?_push_size _ rfl
  show wpAny _ _ _ _ _ { s with heap := h'.push (seqObj "list" ws.toArray 0), toks := tk }
  refine wpAny_bind (wpAny_holding (wpAny_call_entry slot_list_sort ⟨_, at', rfl⟩ entry_list_sort (list_sort_treeK strKind_oneLt (s := { s with heap := h'.push (seqObj "list" ws.toArray 0), toks := tk }) at' hS.keysOf (fun v1 v2 rest e => keyKind_strs (by rw [← e]; exact hS)) (by rw [len]; exact few) fun st hp hs => ⟨_, rfl, ?_⟩) (args_list_sort _)))
  obtain ⟨ys, w1, w2, w3⟩ := sorted_out_str hS hp hs
  have ew : ys = sortStr zs := sortStr_one w2 w3
  subst ew
  have I1 : Inv X pins σ H { s with heap := h', toks := tk } := I.kept k1
  refine wpAny_pure ⟨_, rfl, laidS (s1 := { s with heap := h', toks := tk }) (vs := ws) (out := (arrOf st).map (·.2)) I1 (fun _ _ z => z) (Nat.le_refl _) rfl rfl at' rfl rfl rfl (vals_of_strs w1) ?_ k⟩
  rw [List.length_map, w2.length_eq]
  exact sz_of (by omega)
def strsD : List (PyData × PyData) → Option (List Str)
  | [] => some []
  | (_, .str x) :: ds => (strsD ds).map fun l => x :: l
  | _ => none
theorem IsD.strsV {K : PySem.W.Frag} {G : Hp} : ∀ {xs : List (Key × V)} {ds : List (PyData × PyData)} {l : List Str}, IsD K G xs ds → strsD ds = some l → xs.map (·.2) = l.map V.str
  | _, _, _, .nil, h => by
    cases h
    rfl
  | _, _, _, .cons (d := d) (ds := ds) i r, h => by
    cases i with
    | str x =>
      have h : (strsD ds).map (fun l => x :: l) = some _ := h
      cases h2 : strsD ds with
      | none => rw [h2] at h; cases h
      | some l2 =>
        rw [h2] at h
        cases h
        rw [List.map_cons, IsD.strsV r h2]
        rfl
    | _ => cases h
def dSortVals (f : DE) : DEO := fun env B => (f env B).bind fun p => match p.1 with
  | .dict ds => (strsD ds).bind fun zs => if zs.length < 64 then some (.l ((sortStr zs).map PyData.str), p.2) else none
  | _ => none
theorem pdn_sortVals {p2 : Pos} (hc : X.calm = true) (h1 : X.mg "sorted" = none) (g1 : Gl X "sorted") (h : PD X b e f) (hb : attributeBase e "values" X.env (eval e X.env) = eval e X.env := by rfl) (line : (apos.endLine == p2.line) = true := by rfl)
    (he2 : starEach [Expr.Call (.Attribute e "values" apos) [] [] p2] X.env = (false, eval (.Call (.Attribute e "values" apos) [] [] p2) X.env) :: starEach [] X.env := by rfl) :
    PDN X b (.Call (.Name "sorted" p) [.Call (.Attribute e "values" apos) [] [] p2] [] pos) (dSortVals f) :=
  PE.imp (pe_callB (p := p) (pos := pos) (call_sortV hc) g1 h1 (by decide +kernel) (pa_cons (pe_vals h hb line) pa_nil he2) (by decide) (by decide) he2 (by rfl)) fun σ H Q ⟨G, env, B, c, B', s, ev, k⟩ => by
    unfold dSortVals at ev
    cases q1 : f env B with
    | none => rw [q1] at ev; cases ev
    | some q =>
      obtain ⟨a, B1⟩ := q
      rw [q1, Option.bind_some] at ev
      dsimp only at ev
      split at ev
      · rename_i ds
        cases q2 : strsD ds with
        | none => rw [q2] at ev; cases ev
        | some zs =>
          rw [q2, Option.bind_some] at ev
          split at ev
          · rename_i few
            cases ev
            refine ⟨G, env, B, _, _, s, q1, fun v G1 H1 fr ex bg is => ?_⟩
            cases is with
            | @dct d kvs _ ha hd =>
              refine ⟨d, kvs, rfl, ex _ _ ha, fun q hq => ⟨q, d, kvs, zs, rfl, upd_same, ?_, hd.strsV q2, few, fun r hr => ?_⟩⟩
              · rw [upd_ne (ne_of_none (ex _ _ ha) hq)]
                exact ex _ _ ha
              · obtain ⟨f1, f2, f3⟩ := pair_frm (K := X.K) (o := ViewO q d) ex bg hq
                exact (k.go (fr.trans f1 f3.1)).new f2 f3 hr ⟨_, rfl, IsL.strs _⟩
          · cases ev
      · cases ev
end
end Dl

/-! DX: name += e, name -= e of ints. -/
namespace Dl
open PySem L2 Evl PyProof.Rows
section
variable {X : Cx} {b : Addr} {pos : Pos} {e : Expr} {f : DE}
def dAug (i : Nat) (g : Int → Int → Int) (f : DE) : DS := fun env B => match env[i]? with
  | some (.sh (.int x)) => (f env B).bind fun p => match p.1 with
    | .int y => some (.nx (env.set i (.sh (.int (g x y)))) p.2)
    | _ => none
  | _ => none
theorem pds_aug (i : Nat) {g : Int → Int → Int} {op : Operator} {x : Str} {px : Pos} (h : PE X e (tD X.K b f) → PS X (.AugAssign (.Name x px) op e pos) (tAug i (tD X.K b f) (ipI g))) (h1 : PD X b e f) : PDS X b (.AugAssign (.Name x px) op e pos) (dAug i g f) := PS.imp (h h1) fun D σ H ⟨G0, H0, Gm, G, env, B, o, s, ev, k⟩ => by
  unfold dAug at ev
  split at ev
  · rename_i z he
    cases q1 : f env B with
    | none => rw [q1] at ev; cases ev
    | some q =>
      obtain ⟨a, B1⟩ := q
      rw [q1, Option.bind_some] at ev
      dsimp only at ev
      split at ev
      · cases ev
        obtain ⟨v, h1, h2⟩ := s.sl i _ he
        cases h2
        refine ⟨_, h1, G, env, B, _, _, s.toSt, q1, fun w G1 H1 fr ex bg is => ?_⟩
        cases is
        exact ⟨_, _, rfl, rfl, k G1 _ H1 ((s.step fr ex bg).put (.int _))⟩
      · cases ev
  · cases ev
end
end Dl

/-! DY: two new lists told within one, held against what is due, then each changed: x = [e1, e2]; if ..: return ..; for y in x: y.append(k). -/
namespace Dl
open PySem L2 Evl PyProof.Rows
section
variable {K : PySem.W.Frag} {b : Addr} {G0 H0 Gm G H : Hp} {σ : L2.St} {env : Env} {B : Bg}
theorem un65 {k : Nat} {A : Around} (hr : Room k A) : A.units + 65 < cLine := by have z := hr.un; omega
/-- nobody's place holds p -/
def NoOwn (σ : L2.St) (env : Env) (p : Addr) : Prop := ∀ (j : Nat) (c : OC), env[j]? = some (.own c) → σ[j]? ≠ some (some (.ref p))
/-- a thing that nobody holds becomes a datum -/
theorem SS.grow {p : Addr} {o : HO} (x : SS K b G0 H0 Gm G σ H env B) (gp : G p = none) (hp : H p = some o) (hb : p ≠ b) (h0 : H0 p = none) (no : NoOwn σ env p) : SS K b G0 H0 Gm (upd G p o) σ H env B := by
  have e1 : Ex G (upd G p o) := Ex.new gp
  refine ⟨⟨fun a u q => ?_, ?_, x.len, fun j s e => ?_, x.dis⟩, ⟨x.frm.ex.trans e1, x.frm.keep, fun a u q n => ?_, x.frm.cell⟩, x.mrk.trans e1, x.fresh⟩
  · by_cases z : a = p
    · rw [z, upd_same] at q
      cases q
      rw [z]
      exact hp
    · rw [upd_ne z] at q
      exact x.ex a u q
  · obtain ⟨g1, c, g2, g3⟩ := x.bag
    exact ⟨by rw [upd_ne hb.symm]; exact g1, c, g2, e1 c _ g3⟩
  · have z := x.sl j s e
    cases s with
    | no => trivial
    | sh d =>
      obtain ⟨v, z1, z2⟩ := z
      exact ⟨v, z1, z2.mono e1⟩
    | own fs =>
      obtain ⟨r, u, z1, z2, z3, z4, z5⟩ := z
      have ne : r ≠ p := fun q => no j fs e (by rw [z1, q])
      exact ⟨r, u, z1, by rw [upd_ne ne]; exact z2, z3, z4, z5.mono e1⟩
    | bag => exact z
  · have ne : a ≠ p := ne_of_none q h0
    rw [upd_ne ne]
    exact x.frm.hide a u q n
/-- a thing that nobody holds is changed -/
theorem SS.poke {p : Addr} {o : HO} (x : SS K b G0 H0 Gm G σ H env B) (gp : G p = none) (hb : p ≠ b) (h0 : H0 p = none) (no : NoOwn σ env p) : SS K b G0 H0 Gm G σ (upd H p o) env B := by
  refine ⟨⟨fun a u q => ?_, ?_, x.len, fun j s e => ?_, x.dis⟩, ⟨x.frm.ex, fun a u q n => ?_, x.frm.hide, fun c h => (x.frm.cell c h).ne hb⟩, x.mrk, x.fresh⟩
  · rw [upd_ne (ne_of_none q gp)]
    exact x.ex a u q
  · obtain ⟨g1, c, g2, g3⟩ := x.bag
    exact ⟨g1, c, by rw [upd_ne hb.symm]; exact g2, g3⟩
  · have z := x.sl j s e
    cases s with
    | no => trivial
    | sh d => exact z
    | own fs =>
      obtain ⟨r, u, z1, z2, z3, z4, z5⟩ := z
      have ne : r ≠ p := fun q => no j fs e (by rw [z1, q])
      exact ⟨r, u, z1, z2, z3, by rw [upd_ne ne]; exact z4, z5⟩
    | bag => exact z
  · rw [upd_ne (ne_of_none q h0)]
    exact x.frm.keep a u q n
/-- a name's place given up -/
theorem SS.drop {i : Nat} {v : Option V} (x : SS K b G0 H0 Gm G σ H env B) : SS K b G0 H0 Gm G (σ.set i v) H (env.set i .no) B :=
  ⟨x.toSt.drop, x.frm, x.mrk, fun j ds p e1 e2 => by
    rw [List.getElem?_set] at e1 e2
    by_cases q : i = j
    · rw [if_pos q] at e1
      split at e1 <;> cases e1
    · rw [if_neg q] at e1 e2
      exact x.fresh j ds p e1 e2⟩
theorem noOwn_of {p : Addr} (x : St K b G σ H env B) (hp : H p = none) : NoOwn σ env p := fun j c e z => by
  obtain ⟨r, u, z1, z2, z3, z4, z5⟩ := x.sl j _ e
  rw [z] at z1
  cases z1
  rw [hp] at z4
  cases z4
theorem NoOwn.set {p : Addr} {i : Nat} {v : Option V} (h : NoOwn σ env p) : NoOwn (σ.set i v) (env.set i .no) p := fun j c e z => by
  rw [List.getElem?_set] at e z
  by_cases q : i = j
  · rw [if_pos q] at e
    split at e <;> cases e
  · rw [if_neg q] at e z
    exact h j c e z
theorem NoOwn.less {p : Addr} {i : Nat} (h : NoOwn σ env p) : NoOwn σ (env.set i .no) p := fun j c e z => by
  rw [List.getElem?_set] at e
  by_cases q : i = j
  · rw [if_pos q] at e
    split at e <;> cases e
  · rw [if_neg q] at e
    exact h j c e z
/-- no promise any more about a name -/
theorem SS.forget {i : Nat} (x : SS K b G0 H0 Gm G σ H env B) : SS K b G0 H0 Gm G σ H (env.set i .no) B :=
  ⟨⟨x.ex, x.bag, by rw [List.length_set]; exact x.len, fun j s e => by
    rw [List.getElem?_set] at e
    by_cases q : i = j
    · rw [if_pos q] at e
      split at e
      · cases e
        trivial
      · cases e
    · rw [if_neg q] at e
      exact x.sl j s e, fun j l ds es r e1 e2 s1 s2 => by
    rw [List.getElem?_set] at e1 e2
    by_cases q1 : i = j
    · rw [if_pos q1] at e1
      split at e1 <;> cases e1
    · by_cases q2 : i = l
      · rw [if_pos q2] at e2
        split at e2 <;> cases e2
      · rw [if_neg q1] at e1
        rw [if_neg q2] at e2
        exact x.dis j l ds es r e1 e2 s1 s2⟩, x.frm, x.mrk, fun j ds r e1 e2 => by
    rw [List.getElem?_set] at e1
    by_cases q : i = j
    · rw [if_pos q] at e1
      split at e1 <;> cases e1
    · rw [if_neg q] at e1
      exact x.fresh j ds r e1 e2⟩
end
section
variable {X : Cx} {b : Addr} {e1 e2 c : Expr} {pos : Pos} {s1 s3 : Stmt} {body : List Stmt} {fo1 fo2 : DEO} {ft : DE} {g1 : DS}
def dTold (i j : Nat) (fo1 fo2 : DEO) (ft : DE) (g1 : DS) : DS := fun env B => (fo1 env B).bind fun p => (fo2 env p.2).bind fun q => match p.1, q.1 with
  | .l xs, .l ys => if xs.length < 50000 ∧ ys.length < 50000 ∧ i < env.length ∧ j < env.length then (ft (env.set i (.sh (.list [.list xs, .list ys]))) q.2).bind fun r => match r.1 with
      | .bool true => (g1 (env.set i (.sh (.list [.list xs, .list ys]))) r.2).bind fun o => match o with
        | .rt d B => some (.rt d B)
        | _ => none
      | .bool false => some (.nx ((env.set i .no).set j .no) r.2)
      | _ => none
    else none
  | _, _ => none
theorem pds_told (i j : Nat) {v : V} (h1 : PDN X b e1 fo1) (h2 : PDN X b e2 fo2) (hset : PA X [e1, e2] (tCons (tDN X.K b fo1) (tCons (tDN X.K b fo2) tNil)) → PS X s1 (tAsg (tLst (tCons (tDN X.K b fo1) (tCons (tDN X.K b fo2) tNil))) (gName i)))
    (ht : PDT X b c ft) (hb1 : PDSs X b body g1) (h3 : PS X s3 (tFor (iList X.K (tVar i)) (gName j) (tDrop (tBM X.K "list" rAppend (tVar j) (tCons (tC v) tNil)))))
    (hs : starEach [e1, e2] X.env = (false, eval e1 X.env) :: starEach [e2] X.env := by rfl) (hs2 : starEach [e2] X.env = (false, eval e2 X.env) :: starEach [] X.env := by rfl) : PDSs X b [s1, .If c body [] pos, s3] (dTold i j fo1 fo2 ft g1) :=
  PSs.imp (pss_cons (hset (pa_cons h1 (pa_cons h2 pa_nil hs2) hs)) (pss_cons (ps_if ht hb1 pss_nil) (pss_one h3))) fun D σ H ⟨G0, H0, Gm, G, env, B, o, s, ev, k⟩ => by
    unfold dTold at ev
    cases q1 : fo1 env B with
    | none => rw [q1] at ev; cases ev
    | some r1 =>
      obtain ⟨c1, B1⟩ := r1
      rw [q1, Option.bind_some] at ev
      dsimp only at ev
      cases q2 : fo2 env B1 with
      | none => rw [q2] at ev; cases ev
      | some r2 =>
        obtain ⟨c2, B2⟩ := r2
        rw [q2, Option.bind_some] at ev
        dsimp only at ev
        split at ev
        · rename_i xs ys
          split at ev
          · rename_i small
            obtain ⟨z1, z2, li, lj⟩ := small
            refine ⟨G, env, B, .l xs, B1, s.toSt, q1, fun a o1 G1 H1 fr1 ex1 bg1 ha h1a g1a hab oc1 => ?_⟩
            have t1 := s.step fr1 ex1 bg1
            refine ⟨G1, env, B1, .l ys, B2, t1.toSt, q2, fun d o2 G2 H2 fr2 ex2 bg2 hd h2d g2d hdb oc2 => ?_⟩
            refine ⟨by show 2 ≤ sizeLine; decide, fun p hp => ?_⟩
            obtain ⟨us, rfl, l1⟩ := oc1
            obtain ⟨ws, rfl, l2⟩ := oc2
            have t2 := t1.step fr2 ex2 bg2
            have h2a := fr2.keep a _ h1a hab
            have g2a := fr2.hide a _ h1a g1a
            have ad : a ≠ d := ne_of_none h1a hd
            have ap : a ≠ p := ne_of_none h2a hp
            have dp : d ≠ p := ne_of_none h2d hp
            have hpb : p ≠ b := bg2.ne hp
            have g2p : G2 p = none := ex_none ex2 hp
            have h0a := s.frm.back hab ha
            have h0d := t1.frm.back hdb hd
            have h0p := t2.frm.back hpb hp
            have na := noOwn_of s.toSt ha
            have nd := noOwn_of t1.toSt hd
            have np := noOwn_of t2.toSt hp
            have x0 := t2.poke (o := .lst [.ref a, .ref d]) g2p hpb h0p np
            have h3a : upd H2 p (.lst [.ref a, .ref d]) a = some (.lst us) := by rw [upd_ne ap]; exact h2a
            have h3d : upd H2 p (.lst [.ref a, .ref d]) d = some (.lst ws) := by rw [upd_ne dp]; exact h2d
            have x1 := x0.grow g2a h3a hab h0a na
            have gd1 : upd G2 a (.lst us) d = none := by rw [upd_ne ad.symm]; exact g2d
            have x2 := x1.grow gd1 h3d hdb h0d nd
            have gp2 : upd (upd G2 a (.lst us)) d (.lst ws) p = none := by rw [upd_ne dp.symm, upd_ne ap.symm]; exact g2p
            have x3 := x2.grow gp2 upd_same hpb h0p np
            have e1 : Ex G2 (upd (upd (upd G2 a (.lst us)) d (.lst ws)) p (.lst [.ref a, .ref d])) := ((Ex.new g2a).trans (Ex.new gd1)).trans (Ex.new gp2)
            have is : Is X.K (upd (upd (upd G2 a (.lst us)) d (.lst ws)) p (.lst [.ref a, .ref d])) (.ref p) (.list [.list xs, .list ys]) :=
              .lst upd_same (.cons (.lst (by rw [upd_ne ap, upd_ne ad, upd_same]) ((l1.mono fr2.ex).mono e1)) (.cons (.lst (by rw [upd_ne dp, upd_same]) (l2.mono e1)) .nil))
            have x4 := x3.put (i := i) is
            cases q3 : ft (env.set i (.sh (.list [.list xs, .list ys]))) B2 with
            | none => rw [q3] at ev; cases ev
            | some r3 =>
              obtain ⟨t, B3⟩ := r3
              rw [q3, Option.bind_some] at ev
              dsimp only at ev
              split at ev
              · refine ⟨_, _, B2, true, B3, x4.toSt, q3, fun G5 H5 fr5 ex5 bg5 => iteT ?_⟩
                cases q4 : g1 (env.set i (.sh (.list [.list xs, .list ys]))) B3 with
                | none => rw [q4] at ev; cases ev
                | some o4 =>
                  rw [q4, Option.bind_some] at ev
                  refine ⟨G0, H0, Gm, G5, _, B3, o4, x4.step fr5 ex5 bg5, q4, ?_⟩
                  cases o4 with
                  | rt d4 B4 =>
                    cases ev
                    exact k
                  | _ => cases ev
              · refine ⟨_, _, B2, false, B3, x4.toSt, q3, fun G5 H5 fr5 ex5 bg5 => iteF ?_⟩
                obtain ⟨f1, y1, b1⟩ := less_frm gp2 hpb x2.bag fr5 ex5 bg5
                obtain ⟨f2, y2, b2⟩ := less_frm gd1 hdb x1.bag f1 y1 b1
                obtain ⟨f3, y3, b3⟩ := less_frm g2a hab x0.bag f2 y2 b2
                have x6 := x0.step f3 y3 b3
                have x7 := x6.drop (i := i) (v := some (.ref p))
                have g6a : less a (less d (less p G5)) a = none := if_pos rfl
                have g6d : less a (less d (less p G5)) d = none := by
                  show (if d = a then none else less d (less p G5) d) = none
                  rw [if_neg ad.symm]
                  exact if_pos rfl
                have h5p := fr5.keep p _ upd_same hpb
                have h5a := fr5.keep a _ h3a hab
                have h5d := fr5.keep d _ h3d hdb
                cases ev
                have lenS : σ.length = env.length := x6.len.symm
                refine ⟨.ref p, by rw [List.getElem?_set_self (by omega)], p, rfl, ⟨_, sq_of h5p⟩, for_list (K := X.K) (a := p) (xs := [.ref a, .ref d]) (fun n σ2 H2 => SS X.K b G0 H0 Gm (less a (less d (less p G5))) σ2 H2 ((env.set i .no).set j .no) B3 ∧ NoOwn σ2 ((env.set i .no).set j .no) a ∧ NoOwn σ2 ((env.set i .no).set j .no) d ∧
                  H2 p = some (.lst [.ref a, .ref d]) ∧ (∃ us, H2 a = some (.lst us) ∧ us.length ≤ xs.length + n) ∧ (∃ ws, H2 d = some (.lst ws) ∧ ws.length ≤ ys.length + n))
                  ⟨x7.forget, na.set.less, nd.set.less, h5p, ⟨us, h5a, by rw [l1.len]; omega⟩, ⟨ws, h5d, by rw [l2.len]; omega⟩⟩ (fun n σ2 H2 _ P => sq_of P.2.2.2.1) (fun n x σ2 H2 hx P => ?_) (fun σ2 H2 P => k _ σ2 H2 P.1)⟩
                obtain ⟨y, ya, yd, yp, ⟨us2, ua, ul⟩, ⟨ws2, wd, wl⟩⟩ := P
                have y' := y.drop (i := j) (v := some x)
                rw [List.set_set] at y'
                have ya' := ya.set (i := j) (v := some x)
                have yd' := yd.set (i := j) (v := some x)
                rw [List.set_set] at ya' yd'
                have ljs : j < σ2.length := by
                  have z := y.len
                  rw [List.length_set, List.length_set] at z
                  omega
                match n, hx with
                | 0, hx =>
                  cases hx
                  refine ⟨.ref a, by rw [List.getElem?_set_self ljs], tyV_list ua, a, us2, v, rfl, rfl, ua, sz_lt (by omega), y'.poke g6a hab h0a ya', ya', yd', by rw [upd_ne ap.symm]; exact yp, ⟨_, upd_same, by rw [List.length_append]; show _ + 1 ≤ _; omega⟩, ⟨ws2, by rw [upd_ne ad.symm]; exact wd, by omega⟩⟩
                | 1, hx =>
                  cases hx
                  refine ⟨.ref d, by rw [List.getElem?_set_self ljs], tyV_list wd, d, ws2, v, rfl, rfl, wd, sz_lt (by omega), y'.poke g6d hdb h0d yd', ya', yd', by rw [upd_ne dp.symm]; exact yp, ⟨us2, by rw [upd_ne ad]; exact ua, by omega⟩, ⟨_, upd_same, by rw [List.length_append]; show _ + 1 ≤ _; omega⟩⟩
                | n + 2, hx => cases hx
              · cases ev
          · cases ev
        · cases ev
end
end Dl

/-! DO: all(..) and any(..) of a list of truths. -/
namespace Dl
open PySem L2 Evl PyProof.Rows
section
variable {X : Cx} {b : Addr} {pos p : Pos} {e : Expr} {as : List DAr}
def boolsD : List PyData → Option (List Bool)
  | [] => some []
  | .bool i :: ds => (boolsD ds).map fun l => i :: l
  | _ :: _ => none
theorem IsL.bools {K : PySem.W.Frag} {G : Hp} : ∀ {vs : List V} {ds : List PyData} {l : List Bool}, IsL K G vs ds → boolsD ds = some l → vs = l.map V.bl
  | _, [], l, is, h => by
    cases h
    cases is
    rfl
  | _, d :: ds, l, is, h => by
    unfold boolsD at h
    split at h
    · rename_i q
      cases q
    · rename_i i ds' eq
      cases eq
      cases h2 : boolsD ds with
      | none => rw [h2] at h; cases h
      | some l2 =>
        rw [h2] at h
        cases h
        cases is with
        | cons h3 h4 =>
          cases h3
          rw [List.map_cons, ← IsL.bools h4 h2]
    · cases h
def gAll : List PyData → Option PyData
  | [.list ds] => (boolsD ds).map fun l => .bool (l.all id)
  | _ => none
def gAny : List PyData → Option PyData
  | [.list ds] => (boolsD ds).map fun l => .bool (l.any id)
  | _ => none
theorem r_all {K : PySem.W.Frag} : RLD K (rAll K) gAll := fun b G H xs as d B Q ex bg is eg k => by
  unfold gAll at eg
  split at eg
  · rename_i ds
    cases h2 : boolsD ds with
    | none => rw [h2] at eg; cases eg
    | some l =>
      rw [h2] at eg
      cases eg
      cases is with
      | cons h1 r =>
        cases r
        cases h1 with
        | lst a1 l1 =>
          have e1 := l1.bools h2
          exact ⟨_, l, rfl, e1 ▸ sq_of (ex _ _ a1), k.val ex bg (.bl _)⟩
  · cases eg
theorem r_any {K : PySem.W.Frag} : RLD K (rAny K) gAny := fun b G H xs as d B Q ex bg is eg k => by
  unfold gAny at eg
  split at eg
  · rename_i ds
    cases h2 : boolsD ds with
    | none => rw [h2] at eg; cases eg
    | some l =>
      rw [h2] at eg
      cases eg
      cases is with
      | cons h1 r =>
        cases r
        cases h1 with
        | lst a1 l1 =>
          have e1 := l1.bools h2
          exact ⟨_, l, rfl, e1 ▸ sq_of (ex _ _ a1), k.val ex bg (.bl _)⟩
  · cases eg
theorem pd_all (hc : X.calm = true) (hm : X.mg "all" = none) (hg : Gl X "all") (ha : PDA X b [e] as) (he : starEach [e] X.env = (false, eval e X.env) :: starEach [] X.env := by rfl) (hpl : (backTo pos (starEach [] X.env)).any (·.1) = false := by rfl) : PD X b (.Call (.Name "all" p) [e] [] pos) (dCB gAll as) := pd_cb (cr_all hc) r_all hg hm (by decide +kernel) ha (by decide) (by decide) he hpl
theorem pd_any (hc : X.calm = true) (hm : X.mg "any" = none) (hg : Gl X "any") (ha : PDA X b [e] as) (he : starEach [e] X.env = (false, eval e X.env) :: starEach [] X.env := by rfl) (hpl : (backTo pos (starEach [] X.env)).any (·.1) = false := by rfl) : PD X b (.Call (.Name "any" p) [e] [] pos) (dCB gAny as) := pd_cb (cr_any hc) r_any hg hm (by decide +kernel) ha (by decide) (by decide) he hpl
end
end Dl

/-! DTX: texts held against each other, the signs of a text one by one. -/
namespace Dl
open PySem L2 Evl PyProof.Rows
section
variable {X : Cx} {b : Addr} {tg e : Expr} {f : DE} {K : PySem.W.Frag} {G : Hp}
theorem opr_or {o : Value → Value → Sem Value} {r1 r2 : R2} (h1 : OpR X o r1) (h2 : OpR X o r2) : OpR X o (fun x y H Q => r1 x y H Q ∨ r2 x y H Q) := by
  intro pins s σ H x y v u Q I rx ry h
  rcases h with h | h
  · exact h1 pins s σ H x y v u Q I rx ry h
  · exact h2 pins s σ H x y v u Q I rx ry h
theorem r_orR {r1 r2 : R2} {g1 g2 : PyData → PyData → Option PyData} (h1 : R2D K r1 g1) (h2 : R2D K r2 g2) : R2D K (fun x y H Q => r1 x y H Q ∨ r2 x y H Q) (gOr g1 g2) := fun b G H x y a c d B Q ex bg ia ic eg k => by
  unfold gOr at eg
  cases q : g1 a c with
  | none =>
    rw [q] at eg
    exact .inr (h2 b G H x y a c d B Q ex bg ia ic eg k)
  | some z =>
    rw [q] at eg
    cases eg
    exact .inl (h1 b G H x y a c _ B Q ex bg ia ic q k)
def rTx (g : Str → Str → Bool) : R2 := fun x y H Q => ∃ i j, x = .str i ∧ y = .str j ∧ Q (.bl (g i j)) H
def gTx (g : Str → Str → Bool) : PyData → PyData → Option PyData
  | .str i, .str j => some (.bool (g i j))
  | _, _ => none
theorem r_tx {g : Str → Str → Bool} : R2D K (rTx g) (gTx g) := fun b G H x y a c d B Q ex bg ia ic eg k => by
  unfold gTx at eg
  split at eg
  · cases ia; cases ic; cases eg
    exact ⟨_, _, rfl, rfl, k.val ex bg (.bl _)⟩
  · cases eg
def ltT (i j : Str) : Bool := decide (i.cps.toList < j.cps.toList)
def leT (i j : Str) : Bool := !decide (j.cps.toList < i.cps.toList)
def gtT (i j : Str) : Bool := decide (j.cps.toList < i.cps.toList)
def geT (i j : Str) : Bool := !decide (i.cps.toList < j.cps.toList)
def gLtA := gOr gLt (gTx ltT)
def gLeA := gOr gLe (gTx leT)
def gGtA := gOr gGt (gTx gtT)
def gGeA := gOr gGe (gTx geT)
theorem op_ltA : OpR X (compareOp .Lt) (fun x y H Q => rI0 (fun i j => V.bl (decide (i < j))) x y H Q ∨ rTx ltT x y H Q) := opr_or op_lt op_lt_str
theorem op_leA : OpR X (compareOp .LtE) (fun x y H Q => rI0 (fun i j => V.bl (decide (i ≤ j))) x y H Q ∨ rTx leT x y H Q) := opr_or op_le op_le_str
theorem op_gtA : OpR X (compareOp .Gt) (fun x y H Q => rI0 (fun i j => V.bl (decide (j < i))) x y H Q ∨ rTx gtT x y H Q) := opr_or op_gt op_gt_str
theorem op_geA : OpR X (compareOp .GtE) (fun x y H Q => rI0 (fun i j => V.bl (decide (j ≤ i))) x y H Q ∨ rTx geT x y H Q) := opr_or op_ge op_ge_str
theorem r_ltA : R2D K (fun x y H Q => rI0 (fun i j => V.bl (decide (i < j))) x y H Q ∨ rTx ltT x y H Q) gLtA := r_orR r_lt r_tx
theorem r_leA : R2D K (fun x y H Q => rI0 (fun i j => V.bl (decide (i ≤ j))) x y H Q ∨ rTx leT x y H Q) gLeA := r_orR r_le r_tx
theorem r_gtA : R2D K (fun x y H Q => rI0 (fun i j => V.bl (decide (j < i))) x y H Q ∨ rTx gtT x y H Q) gGtA := r_orR r_gt r_tx
theorem r_geA : R2D K (fun x y H Q => rI0 (fun i j => V.bl (decide (j ≤ i))) x y H Q ∨ rTx geT x y H Q) gGeA := r_orR r_ge r_tx
def signsD (x : Str) : List PyData := x.cps.toList.map fun c => .str ⟨#[c]⟩
theorem itOk_str {x : Str} : ItOk K b G (Its x) (signsD x) := fun i G1 H1 B e1 e2 g => by
  refine ⟨fun hi => ?_, fun d hd => ?_⟩
  · unfold signsD at hi
    rw [List.length_map, Array.length_toList] at hi
    exact hi
  · unfold signsD at hd
    rw [List.getElem?_map, Array.getElem?_toList] at hd
    cases q : x.cps[i]? with
    | none => rw [q] at hd; cases hd
    | some c =>
      rw [q] at hd
      cases hd
      refine ⟨(Array.getElem?_eq_some_iff.mp q).1, fun y H2 h => ?_⟩
      obtain ⟨rfl, c2, q2, rfl⟩ := h
      rw [q] at q2
      cases q2
      exact ⟨G1, Frm.refl, e2, g, .str _⟩
def iTx (f : DE) : DI := fun env B => (f env B).bind fun p => match p.1 with
  | .str x => some (signsD x, p.2)
  | _ => none
theorem pdi_tx (h : PD X b e f) : PDI X b tg e (iTx f) := PI.imp (pi_str h) fun σ H R ⟨G, env, B, ds, B', s, ev, k⟩ => by
  unfold iTx at ev
  cases h1 : f env B with
  | none => rw [h1] at ev; cases ev
  | some p =>
    obtain ⟨a, B1⟩ := p
    rw [h1, Option.bind_some] at ev
    dsimp only at ev
    split at ev
    · cases ev
      refine ⟨G, env, B, _, B', s, h1, fun v G1 H1 fr ex bg is => ?_⟩
      cases is
      exact ⟨_, rfl, k _ G1 H1 fr ex bg itOk_str⟩
    · cases ev
end
end Dl

/-! EV: how a worth is worked out, step by step. -/
namespace Dl
open PySem L2 Evl PyProof.Rows
structure BagOk (B : Bg) : Prop where
  z0 : 0 ≤ B.z0
  z1 : 0 ≤ B.z1
  z2 : 0 ≤ B.z2
  cs : ∀ c ∈ B.cs, 0 ≤ c
theorem gEq_int (a b : Int) : gEq (.int a) (.int b) = some (.bool (decide (a = b))) := rfl
theorem gMulA_int {a b : Int} (h : (-(2 ^ 64) < a ∧ a < 2 ^ 64) ∨ (-(2 ^ 64) < b ∧ b < 2 ^ 64)) : gMulA (.int a) (.int b) = some (.int (a * b)) := by
  have z : gMul (.int a) (.int b) = some (.int (a * b)) := by
    show (if _ then _ else _) = _
    rw [if_pos h]
  unfold gMulA gOr
  rw [z]
  rfl
theorem gPow_18 : gPow (.int 10) (.int 18) = some (.int 1000000000000000000) := by
  show (if (0 : Int) ≤ 18 ∧ (18 : Int) ≤ 1000000 ∧ (10 : Int).natAbs < 2 ^ 64 then some (PyData.int ((10 : Int) ^ (18 : Int).toNat)) else none) = _
  rw [if_pos (by decide)]
  rfl
theorem gIxA_list {ds : List PyData} {n : Int} {d : PyData} (h : atI ds n = some d) : gIxA (.list ds) (.int n) = some d := by
  have z : gIx (.list ds) (.int n) = some d := h
  unfold gIxA gOr
  rw [z]
  rfl
theorem gMod_int {a b : Int} (h : 0 < b) : gMod (.int a) (.int b) = some (.int (a % b)) := by
  show (if 0 < b then _ else _) = _
  rw [if_pos h]
theorem gDiv_int {a b : Int} (h : 0 < b) (h2 : b < 1073741824) : gDiv (.int a) (.int b) = some (.int (a / b)) := by
  show (if 0 < b ∧ b < 1073741824 then _ else _) = _
  rw [if_pos ⟨h, h2⟩]
section
variable {env env1 : Env} {B B1 B2 : Bg} {g1 g2 : DS} {c f f1 f2 : DE} {o : Out} {d d1 d2 : PyData} {as : List DAr}
theorem ev_seq (h1 : g1 env B = some (.nx env1 B1)) (h2 : g2 env1 B1 = some o) : dSeq g1 g2 env B = some o := by
  unfold dSeq
  rw [h1]
  exact h2
theorem ev_seqR (h1 : g1 env B = some (.rt d B1)) : dSeq g1 g2 env B = some (.rt d B1) := by
  unfold dSeq
  rw [h1]
  rfl
theorem ev_if {t : Bool} (h : c env B = some (.bool t, B1)) (h1 : t = true → g1 env B1 = some o) (h2 : t = false → g2 env B1 = some o) : dIfS c g1 g2 env B = some o := by
  unfold dIfS
  rw [h, Option.bind_some]
  cases t with
  | true => exact h1 rfl
  | false => exact h2 rfl
theorem ev_set {i : Nat} (h : f env B = some (d, B1)) : dAsg (gOne i) f env B = some (.nx (env.set i (.sh d)) B1) := by
  unfold dAsg
  rw [h]
  rfl
theorem ev_ret (h : f env B = some (d, B1)) : dRet f env B = some (.rt d B1) := by
  unfold dRet
  rw [h]
  rfl
theorem ev_bin {g : PyData → PyData → Option PyData} (h1 : f1 env B = some (d1, B1)) (h2 : f2 env B1 = some (d2, B2)) (h : g d1 d2 = some d) : dBin g f1 f2 env B = some (d, B2) := by
  unfold dBin
  rw [h1, Option.bind_some]
  dsimp only
  rw [h2, Option.bind_some]
  dsimp only
  rw [h]
  rfl
theorem ev_un {g : PyData → Option PyData} (h1 : f1 env B = some (d1, B1)) (h : g d1 = some d) : dUn g f1 env B = some (d, B1) := by
  unfold dUn
  rw [h1, Option.bind_some]
  dsimp only
  rw [h]
  rfl
theorem ev_var {i : Nat} (h : env[i]? = some (.sh d)) : dVar i env B = some (d, B) := by
  unfold dVar
  rw [h]
theorem ev_c : dC d env B = some (d, B) := rfl
theorem ev_bg {i : Nat} {k : Int} (h : env[i]? = some .bag) (h1 : bgGet B k = some d) : dBg i k env B = some (d, B) := by
  unfold dBg
  rw [h]
  dsimp only
  rw [h1]
  rfl
theorem ev_cb1 {g : List PyData → Option PyData} (h1 : f env B = some (d1, B1)) (h : g [d1] = some d) : dCB g [.e f] env B = some (d, B1) := by
  unfold dCB dArgs dArgs
  show ((((f env B).map fun p => (Ar.d p.1, p.2)).bind fun p => _).bind fun p => _) = _
  rw [h1]
  show ((g [d1]).map fun d => (d, B1)) = _
  rw [h]
  rfl
theorem ev_argE {xs : List Ar} (h1 : f env B = some (d, B1)) (h2 : dArgs as env B1 = some (xs, B2)) : dArgs (.e f :: as) env B = some (.d d :: xs, B2) := by
  show (((f env B).map fun p => (Ar.d p.1, p.2)).bind fun p => (dArgs as env p.2).map fun (q : List Ar × Bg) => (p.1 :: q.1, q.2)) = _
  rw [h1]
  show ((dArgs as env B1).map fun (q : List Ar × Bg) => (Ar.d d :: q.1, q.2)) = _
  rw [h2]
  rfl
theorem ev_argB {i : Nat} {xs : List Ar} (h1 : env[i]? = some .bag) (h2 : dArgs as env B = some (xs, B1)) : dArgs (.bag i :: as) env B = some (.bag :: xs, B1) := by
  show ((DAr.ev (.bag i) env B).bind fun p => (dArgs as env p.2).map fun (q : List Ar × Bg) => (p.1 :: q.1, q.2)) = _
  rw [show DAr.ev (.bag i) env B = some (Ar.bag, B) by unfold DAr.ev; dsimp only; rw [h1]]
  show ((dArgs as env B).map fun (q : List Ar × Bg) => (Ar.bag :: q.1, q.2)) = _
  rw [h2]
  rfl
theorem ev_call {n : Nat} {F : DF} {xs : List Ar} (h1 : dArgs as env B = some (xs, B1)) (hn : xs.length = n) (h2 : F xs B1 = some (d, B2)) : dCall n F as env B = some (d, B2) := by
  unfold dCall
  rw [h1, Option.bind_some]
  dsimp only
  rw [if_pos hn, h2]
theorem ev_bgset {i : Nat} {k : Int} {z : Int} (h : env[i]? = some .bag) (h1 : f env B = some (.int z, B1)) (h2 : bgPut B1 z k = some B2) : dBgSet i k f env B = some (.nx env B2) := by
  unfold dBgSet
  rw [h1, Option.bind_some]
  dsimp only
  rw [h]
  dsimp only
  rw [h2]
  rfl
theorem ev_bgaug {i k : Nat} {n z : Int} (h : env[i]? = some .bag) (h1 : bgGet B k = some (.int z)) (h2 : bgPut B (z + n) k = some B2) : dBgAug i k n env B = some (.nx env B2) := by
  unfold dBgAug
  rw [h, h1]
  dsimp only
  rw [h2]
  rfl
end
theorem atI_nat {α : Type} {xs : List α} {k : Nat} (h : k < xs.length) : atI xs (k : Int) = some xs[k] := by
  unfold atI ixN
  rw [if_pos (by omega), if_pos (by omega)]
  show xs[((k : Nat) : Int).toNat]? = _
  rw [Int.toNat_natCast, List.getElem?_eq_getElem h]
theorem ints_at {cs : List Int} {n : Int} (h0 : 0 ≤ n) (h1 : n < cs.length) : ∃ c ∈ cs, atI (cs.map PyData.int) n = some (.int c) := by
  obtain ⟨k, rfl⟩ : ∃ k : Nat, n = k := ⟨n.toNat, by omega⟩
  have hk : k < cs.length := by omega
  refine ⟨cs[k], List.getElem_mem hk, ?_⟩
  unfold atI ixN
  rw [List.length_map, if_pos (by omega), if_pos h1]
  show (List.map PyData.int cs)[((k : Nat) : Int).toNat]? = _
  rw [Int.toNat_natCast, List.getElem?_map, List.getElem?_eq_getElem hk]
  rfl
end Dl

namespace Dl
open PySem L2 Evl PyProof.Rows
/-! DZ: the script's bag; the law's own def; the head. -/
def absI (i : Int) : Int := if i < 0 then -i else i
/-- the bag that a script gives -/
def bag0 (ns : List Int) : Bg := ⟨0, 1234567891, 0, (ns.take 63).map absI⟩
def spBag (K : PySem.W.Frag) : Sp := fun vs H Q _ => ∃ (a : Addr) (ns : List Int), vs = [.ref a] ∧ SqL K H a (ns.map V.int) ∧ ns.length ≤ 100000 ∧
  ∀ (p c : Addr) (H' : Hp), Ex H H' → H p = none → p ≠ c → H' p = some (.lst (bgV (bag0 ns) c)) → H' c = some (.lst ((bag0 ns).cs.map V.int)) → Q (.ref p) H'
theorem cut63 (ns : List Int) : cutV (ns.map V.int) none (some 63) = (ns.take 63).map V.int := by
  unfold cutV
  have h1 : HT.sIx (ns.map V.int).length 0 none = 0 := rfl
  have h2 : HT.sIx (ns.map V.int).length (ns.map V.int).length (some 63) = min 63 (ns.map V.int).length := HT.sIx_nat _ _ 63
  rw [h1, h2, List.drop_zero, Nat.sub_zero, ← List.map_take]
  congr 1
  rw [List.length_map]
  rcases Nat.le_total 63 ns.length with h | h
  · rw [Nat.min_eq_left h]
  · rw [Nat.min_eq_right h, List.take_of_length_le (Nat.le_refl _), List.take_of_length_le h]
/-- the list of a script's bag, its first three places written -/
theorem bag_told {K : PySem.W.Frag} {H : Hp} {a : Addr} {ns : List Int} {Q : VK} (hS : SqL K H a (ns.map V.int)) (hlen : ns.length ≤ 100000)
    (k : ∀ (p c : Addr) (H' : Hp), Ex H H' → H p = none → p ≠ c → H' p = some (.lst (bgV (bag0 ns) c)) → H' c = some (.lst ((bag0 ns).cs.map V.int)) → Q (.ref p) H') :
    tLst (tCons (tC (.int 0)) (tCons (tC (.int 1234567891)) (tCons (tC (.int 0)) (tCons (tLc (iList K (tSl (rSlL K) (tVar 0) tNoPart (tPart (tC (.int 63))))) (gName 1) tYes
      (tCB (fun xs H Q => ∃ i, xs = [V.int i] ∧ Q (V.int (if i < 0 then -i else i)) H) (tCons (tVar 1) tNil)) [1]) tNil)))) [some (.ref a), none] H Q := by
  refine ⟨_, rfl, 63, rfl, a, _, rfl, hS, fun q hq => ⟨q, rfl, ⟨_, sq_of upd_same⟩, fun c hc => ?_⟩⟩
  rw [cut63] at hc ⊢
  generalize hH1 : upd H q (HO.lst ((ns.take 63).map V.int)) = H1 at hc
  have e1 : Ex H H1 := by
    rw [← hH1]
    exact Ex.new hq
  have q1 : H1 q = some (.lst ((ns.take 63).map V.int)) := by
    rw [← hH1]
    exact upd_same
  have hqc : q ≠ c := fun e => by
    rw [e, hc] at q1
    cases q1
  have at' : ∀ o, (upd H1 c o) q = some (.lst ((ns.take 63).map V.int)) := fun o => by
    rw [upd_ne hqc]
    exact q1
  refine lc_list (xs := (ns.take 63).map V.int) (fun i H2 => H2 = upd H1 c (.lst ((((ns.take 63).take i).map absI).map V.int))) ?_ (fun i H2 _ h => ?_) (fun i x H2 hx h => ?_) fun H2 h => ?_
  · rw [List.take_zero]
    all_goals rfl
  · rw [h]
    exact sq_of (at' _)
  · subst h
    have hi : i < ((ns.take 63).map V.int).length := (List.getElem?_eq_some_iff.mp hx).1
    rw [List.length_map] at hi
    have hx' : x = V.int ((ns.take 63)[i]) := by
      rw [List.getElem?_map, List.getElem?_eq_getElem hi] at hx
      exact (Option.some.inj hx).symm
    subst hx'
    refine ⟨rfl, .int ((ns.take 63)[i]), rfl, _, rfl, _, upd_same, sz_lt ?_, ?_⟩
    · rw [List.length_map, List.length_map]
      have : ((ns.take 63).take i).length ≤ i := by
        rw [List.length_take]
        exact Nat.min_le_left _ _
      have : (ns.take 63).length ≤ 63 := by
        rw [List.length_take]
        exact Nat.min_le_left _ _
      omega
    · rw [upd_upd, List.take_succ_eq_append_getElem hi, List.map_append, List.map_append]
      all_goals rfl
  · rw [List.length_map, List.take_of_length_le (Nat.le_refl _)] at h
    subst h
    refine ⟨by show 4 ≤ sizeLine; decide, fun p hp => ?_⟩
    have hpc : p ≠ c := fun e => by
      rw [e, upd_same] at hp
      cases hp
    have hp1 : H1 p = none := by
      rw [upd_ne hpc] at hp
      exact hp
    refine k p c _ ?_ (ex_none e1 hp1) hpc upd_same ?_
    · exact (e1.trans (Ex.new hc)).trans (Ex.new hp)
    · rw [upd_ne hpc.symm, upd_same]
      all_goals rfl

/-! ### the law's def -/
theorem pss_any {X : Cx} {sts : List Stmt} {g : DS} (h : ∀ b, PDSs X b sts g) : PSs X sts (fun D σ H => ∃ b, tDS X.K b g D σ H) :=
  ⟨fun pins s σ H D I ⟨b, q⟩ => (h b).run pins s σ H D I q⟩
def spLaw (K : PySem.W.Frag) : Sp := fun vs H Q _ => ∃ (a : Addr) (ns : List Int), vs = [.ref a] ∧ SqL K H a (ns.map V.int) ∧ ns.length ≤ 63 ∧ ∀ H', Q (.bl true) H'
section
variable {P : Program} {w : World} {K : PySem.W.Frag} {mg : Str → Option Value} {base : Heap}
/-- the state behind the bag's making -/
theorem bag_state {H' : Hp} {p c : Addr} {B : Bg} {n : Nat} {a : V} (hpc : p ≠ c) (hp : H' p = some (.lst (bgV B c))) (hc : H' c = some (.lst (B.cs.map V.int))) :
    SS K p (fun x => if x = p then none else H' x) H' (fun x => if x = p then none else H' x) (fun x => if x = p then none else H' x) ((some a :: List.replicate (n + 1) none).set 1 (some (.ref p))) H' (.no :: .bag :: List.replicate n .no) B := by
  have slots : ∀ (i : Nat) s, (Sl.no :: Sl.bag :: List.replicate n Sl.no)[i]? = some s → s = .no ∨ (i = 1 ∧ s = .bag) := fun i s e => by
    match i, e with
    | 0, e =>
      cases e
      exact .inl rfl
    | 1, e =>
      cases e
      exact .inr ⟨rfl, rfl⟩
    | i + 2, e =>
      have e2 : (List.replicate n Sl.no)[i]? = some s := e
      rw [List.getElem?_replicate] at e2
      split at e2
      · cases e2
        exact .inl rfl
      · cases e2
  refine ⟨⟨fun x o q => ?_, ⟨if_pos rfl, c, hp, ?_⟩, ?_, fun i s e => ?_, fun i j ds es r e1 _ _ _ => ?_⟩, Frm.refl, Ex.refl _, fun i ds r e1 _ => ?_⟩
  · have q : (if x = p then none else H' x) = some o := q
    split at q
    · cases q
    · exact q
  · show (if c = p then none else H' c) = _
    rw [if_neg hpc.symm]
    exact hc
  · simp
  · rcases slots i s e with rfl | ⟨rfl, rfl⟩
    · trivial
    · rfl
  · rcases slots i _ e1 with z | ⟨_, z⟩ <;> cases z
  · rcases slots i _ e1 with z | ⟨_, z⟩ <;> cases z
theorem law_fn {st : Stmt} {f : Addr} {fd : FuncData} {N : List Str} {n k : Nat} {first : Stmt} {rest : List Stmt} {g : DS} (F : Fun K "law" "law" st f fd) (S : FnScope N ["script"] (defScope st)) (hN : N.length = n + 2) (hbody : defBody st = first :: rest)
    (h1 : ∀ (cdv : Value) (A : Around) (outer : List PySem.Env) (s : Shared) (H : Hp) (E : XK), Room k (A.deeper (PyProof.Rows.envOfC "law" (defScope st) s.heap.objs.size f cdv)) → PS (cxOf CX0 P w K mg base N "law" (defScope st) f cdv A outer s H E).nox first (tAsg (tCall (spBag K) [] E0 (tCons (tVar 0) tNil)) (gName 1)))
    (h2 : ∀ (b : Addr) (cdv : Value) (A : Around) (outer : List PySem.Env) (s : Shared) (H : Hp) (E : XK), Room k (A.deeper (PyProof.Rows.envOfC "law" (defScope st) s.heap.objs.size f cdv)) → A.guards = some [] → PDSs (cxOf CX0 P w K mg base N "law" (defScope st) f cdv A outer s H E).nox b rest g)
    (val : ∀ ns : List Int, ns.length ≤ 63 → ∃ B', g (.no :: .bag :: List.replicate n .no) (bag0 ns) = some (.rt (.bool true) B')) :
    FnG P w K mg base (k + 1) f fd ["script"] (spLaw K) := by
  refine fnG_of F S (fun vs H Q E h => ?_) fun cdv A outer s H vs Q E hr hg h => ?_
  · obtain ⟨a, ns, rfl, _⟩ := h
    rfl
  · obtain ⟨a, ns, rfl, hS, hlen, kk⟩ := h
    have first' := h1 cdv A outer s H E hr
    have rest' := pss_any fun b => h2 b cdv A outer s H E hr hg
    refine ⟨_, by rw [hbody]; exact pss_cons first' rest', ?_⟩
    have st0 : L2.start N [V.ref a] = some (V.ref a) :: List.replicate (n + 1) none := by
      unfold L2.start
      rw [hN]
      rfl
    rw [st0]
    refine ⟨.ref a, rfl, a, ns, rfl, hS, by omega, fun p c H' ex hp hpc e1 e2 => ?_⟩
    obtain ⟨B', ev⟩ := val ns hlen
    refine ⟨p, _, _, _, _, _, _, _, bag_state (n := n) (a := .ref a) hpc e1 e2, ev, fun v G1 H1 _ _ _ is => ?_⟩
    cases is
    exact kk H1
end
/-! ### the head -/
theorem lawG_call {P : Program} {w : World} {K : PySem.W.Frag} {mg mb : Str → Option Value} {k : Nat} {fa a : Addr} {fd : FuncData} {s₁ : Shared} {vs : List Value} {ns : List Int}
    (KX : K.In s₁.heap) (hns : s₁.heap.Ns mainGlobals mg) (hb : s₁.heap.Ns builtinsNs mb) (hbb : ∀ x : Str, x ≠ "__name__" → mb x = bootBuiltins x) (hlim : s₁.heap.NoLimit) (hg : s₁.gens = #[])
    (ha : s₁.heap.get? a = some { cls := .type "list", data := .seq vs.toArray }) (hi : IntsAre vs ns) (hl : ns.length ≤ 63) (hr : Room k callerA)
    (F : ∀ base : Heap, K.In base → base.Ns mainGlobals mg → FnG P w K mg base k fa fd ["script"] (spLaw K)) (hbind : ∀ (s : Shared) (u : Value), BindsTo s fd ⟨[u], []⟩ [("script", u)]) :
    codeAny (model P w) callerA (.call (.ref fa) ⟨[.ref a], []⟩) (fun r s' => r = .ok (.ret (.bool true)) ∧ OldK s₁.heap s'.heap ∧ s'.os = s₁.os ∧ AllBare s'.gens) s₁ := by
  have rv := vals_ints hi
  have zs : ns.length ≤ sizeLine := sz_of (by omega)
  let o0 : Obj := { cls := .type "list", data := .seq vs.toArray }
  suffices main : ∀ H : Hp, (∀ x, H x = none ∨ (x = a ∧ K.lookup a = none ∧ H x = some (.frz o0 (.lst (ns.map V.int))))) → SqL K H a (ns.map V.int) → HOk P w H s₁.heap →
      codeAny (model P w) callerA (.call (.ref fa) ⟨[.ref a], []⟩) (fun r s' => r = .ok (.ret (.bool true)) ∧ OldK s₁.heap s'.heap ∧ s'.os = s₁.os ∧ AllBare s'.gens) s₁ by
    cases hk : K.lookup a with
    | some o =>
      have e := KX a o hk
      rw [ha] at e
      cases e
      exact main (fun _ => none) (fun _ => .inl rfl) (.inr ⟨_, vs.toArray, _, hk, rfl, rfl, rfl, by rw [List.size_toArray, hi.length]; exact zs, rv⟩) fun _ _ z => nomatch z
    | none =>
      refine main (fun x => if x = a then some (.frz o0 (.lst (ns.map V.int))) else none) (fun x => ?_) (.inl (.inr ⟨o0, if_pos rfl⟩)) fun x u z => ?_
      · by_cases q : x = a
        · exact .inr ⟨q, hk, if_pos q⟩
        · exact .inl (if_neg q)
      · have z : (if x = a then some (HO.frz o0 (.lst (ns.map V.int))) else none) = some u := z
        split at z
        · rename_i q
          cases z
          rw [q]
          exact ⟨ha, by rw [List.length_map]; exact zs, vs, 0, rv, ha⟩
        · cases z
  intro H only hS hok
  have stays : ∀ {x : Addr} {o : Obj}, s₁.heap.get? x = some o → (∀ (es : Array DictEntry) (ep : Nat), o.data = .dict es ep → H x = none) ∧ (K.lookup x = some o → H x = none) := fun {x o} e => by
    rcases only x with q | ⟨rfl, q2, q3⟩
    · exact ⟨fun _ _ _ => q, fun _ => q⟩
    · rw [ha] at e
      cases e
      exact ⟨fun _ _ z => (by cases z), fun z => by rw [q2] at z; cases z⟩
  have nsS : ∀ {x : Addr} {m : Str → Option Value}, s₁.heap.Ns x m → (hidT s₁.heap H).Ns x m := fun {x m} ⟨o, es, ep, e, d, r⟩ => ⟨o, es, ep, hidT_get e ((stays e).1 es ep d), d, r⟩
  have inS : K.In (hidT s₁.heap H) := fun x o e => hidT_get (KX x o e) ((stays (KX x o e)).2 e)
  have mod : Mod K mg (hidT s₁.heap H) := ⟨inS, nsS hns, ⟨mb, nsS hb, hbb⟩, let ⟨mc, h1, h2⟩ := hlim; ⟨mc, nsS h1, h2⟩⟩
  have env : Env0 P w K mg (hidT s₁.heap H) callerA [] s₁ H := ⟨rfl, mod, fun x o e => of_hidT e, Nat.le_of_eq (hidT_size _ _), trivial, fun x hx => (nomatch hx), hok, .of_eq hg⟩
  have ran := (F _ inS (nsS hns)).go callerA [] s₁ H ⟨[.ref a], []⟩ [.ref a] [.ref a] (fun v _ => v = .bl true) (fun _ _ _ => False) hr rfl env (hbind s₁ (.ref a)) (.cons rfl .nil) ⟨a, ns, rfl, hS, hl, fun _ => rfl⟩
  refine codeAny_mono ran fun r s' h => ?_
  match r, h with
  | .error e, h => exact h.elim
  | .ok .next, h => exact h.elim
  | .ok .brk, h => exact h.elim
  | .ok .cont, h => exact h.elim
  | .ok (.ret u), ⟨v, H', os, bare, un, hok', rel, q⟩ =>
    subst q
    have rel : u = Value.bool true := rel
    subst rel
    refine ⟨rfl, OldK.of_keep fun x o e => ?_, os, bare⟩
    rcases only x with q | ⟨rfl, _, q3⟩
    · exact un.keep x o e q (fun z => nomatch z) (fun z => nomatch z)
    · have e1 := (hok _ _ q3).1
      have e2 := (hok' _ _ (un.frzs _ _ _ q3)).1
      rw [e] at e1
      cases e1
      exact e2
theorem walkG {l : PySem.W.OpenLaw} {k : Nat} {q : Program} {loose : List Str} {XP : (Str → Option Value) → Heap → Prop} {YP : World → Heap → Prop} {d : DefRec} {K : Params → PySem.W.Frag} (hn : l.most = some 63) (hdf : d.params.defaults = []) (hr : Room k callerA)
    (hY : ∀ (w : World) (h : Heap), YP w h → (K w.params).In h)
    (F : ∀ (w : World) (mg : Str → Option Value) (fa : Addr) (h : Heap), (K w.params).In h → h.Ns mainGlobals mg → mg d.name = some (.ref fa) →
      ∃ fd : FuncData, (∀ (s : Shared) (u : Value), BindsTo s fd ⟨[u], []⟩ [("script", u)]) ∧ ∀ base : Heap, (K w.params).In base → base.Ns mainGlobals mg → FnG l.prog w (K w.params) mg base k fa fd ["script"] (spLaw (K w.params))) :
    PySem.W.WalkO q loose XP YP l.row.toRowW d [] (fun f vs => PySem.call f vs) := by
  refine Att.attach_call hn hdf fun w s₀ s₁ mg mb fa o pm cd doc a vs ns G Y ho hd hcd hmg hobj hints hlen hg => ?_
  obtain ⟨fd, bind, all⟩ := F w mg fa _ (hY w _ Y) G.T.g hmg
  exact lawG_call (hY w _ Y) G.T.g G.T.b G.T.builtins G.T.nolimit hg hobj hints hlen hr all bind
/-- a def that nobody comes to -/
theorem fn_none {P : Program} {w : World} {K : PySem.W.Frag} {mg : Str → Option Value} {base : Heap} {k : Nat} {f : Addr} {fd : FuncData} {ps : List Str} : FnG P w K mg base k f fd ps (spD K ps.length fun _ _ => none) where
  len := fun vs H Q E ⟨b, G, as, B, d, B', _, _, _, _, ev, _⟩ => by cases ev
  go := fun A outer s H args us vs Q E room g e0 bd rel ⟨b, G, as, B, d, B', _, _, _, _, ev, _⟩ => by cases ev
end Dl

namespace Dl
open PySem L2 Evl PyProof.Rows RZ
/-! DAA: zip of two tuples; setdefault of a dict of one's own. -/
section
variable {X : Cx} {b : Addr} {pos : Pos} {e e1 e2 tg : Expr} {f f1 f2 : DE} {st : Stmt} {sts : List Stmt} {g g1 g2 : DS}
theorem itOk_zipT {K : PySem.W.Frag} {G : Hp} {a c : Addr} {xs ys : List V} {ds es : List PyData} (h : PlT K G a xs) (hl : IsL K G xs ds) (h' : PlT K G c ys) (hl' : IsL K G ys es) : ItOkW K b G (ItzT K a c) (zipD ds es) := fun i G1 H1 B e1 e2 g => by
  have q : SqT K H1 a xs := ((h.mono e1).mono e2).sq
  have q' : SqT K H1 c ys := ((h'.mono e1).mono e2).sq
  refine ⟨fun hi => ⟨xs, ys, q, q', by rw [hl.len, hl'.len]; rw [zipD_len] at hi; omega⟩, fun d hd => ?_⟩
  have hi : i < min ds.length es.length := by
    rw [← zipD_len]
    exact (List.getElem?_eq_some_iff.mp hd).1
  have h1 : ds[i]? = some ds[i] := List.getElem?_eq_getElem (by omega)
  have h2 : es[i]? = some es[i] := List.getElem?_eq_getElem (by omega)
  rw [zipD_get _ _ _ _ _ h1 h2] at hd
  cases hd
  obtain ⟨v, hv, is⟩ := hl.get h1
  obtain ⟨u, hu, is'⟩ := hl'.get h2
  refine ⟨⟨xs, ys, v, u, q, q', hv, hu⟩, fun x H2 y => ?_⟩
  obtain ⟨T, z1, z2, rfl, hT, rfl, y1, y2⟩ := y
  have w1 := y1 xs q
  have w2 := y2 ys q'
  rw [hv] at w1
  rw [hu] at w2
  cases w1
  cases w2
  obtain ⟨f1, f2, f3⟩ := pair_frm (K := K) (o := .tup [v, u]) e2 g hT
  exact ⟨G1, f1, f2, f3, T, _, _, rfl, rfl, .inl (.inl upd_same), .cons (is.mono e1) (.cons (is'.mono e1) .nil)⟩
def iZpA (as : List DAr) : DI := fun env B => (dArgs as env B).bind fun p => match arD p.1 with
  | some [.list ds, .list es] => some (zipD ds es, p.2)
  | some [.tuple ds, .tuple es] => some (zipD ds es, p.2)
  | _ => none
theorem pdi_zipA {as : List DAr} {p tpos : Pos} {elts : List Expr} {kk : Nat} (hg : Gl X "zip") (hm : X.mg "zip" = none) (ha : PDA X b [e, e2] as) (hs : starEach [e, e2] X.env = (false, eval e X.env) :: starEach [e2] X.env := by rfl) (hpl : (backTo pos (starEach [e2] X.env)).any (·.1) = false := by rfl) :
    PDIW X b (.Tuple elts kk tpos) (.Call (.Name "zip" p) [e, e2] [] pos) (iZpA as) := PI.imp (pi_zipA hg hm ha hs hpl) fun σ H R ⟨G, env, B, ds, B', s, ev, k⟩ => by
  unfold iZpA at ev
  cases h1 : dArgs as env B with
  | none => rw [h1] at ev; cases ev
  | some p =>
    rw [h1, Option.bind_some] at ev
    split at ev
    · rename_i ds1 es1 h2
      cases ev
      refine ⟨G, env, B, p.1, p.2, s, h1, fun vs G1 H1 fr ex bg is => ?_⟩
      have q := arD_is is h2
      cases q with
      | cons i1 r =>
        cases r with
        | cons i2 r =>
          cases r
          cases i1 with
          | lst ha1 hl1 =>
            cases i2 with
            | lst ha2 hl2 => exact ⟨_, _, _, _, rfl, .inl ⟨sq_of (ex _ _ ha1), sq_of (ex _ _ ha2), k _ G1 H1 fr ex bg (itOk_zip ha1 hl1 ha2 hl2)⟩⟩
    · rename_i ds1 es1 h2
      cases ev
      refine ⟨G, env, B, p.1, p.2, s, h1, fun vs G1 H1 fr ex bg is => ?_⟩
      have q := arD_is is h2
      cases q with
      | cons i1 r =>
        cases r with
        | cons i2 r =>
          cases r
          cases i1 with
          | tup ha1 hl1 =>
            cases i2 with
            | tup ha2 hl2 => exact ⟨_, _, _, _, rfl, .inr ⟨(ha1.mono ex).sq, (ha2.mono ex).sq, k _ G1 H1 fr ex bg (itOk_zipT ha1 hl1 ha2 hl2)⟩⟩
    · cases ev
/-- d.setdefault(k, v) as a statement -/
def dSetD (i : Nat) (fk fv : DE) : DS := fun env B => (fk env B).bind fun p => (fv env p.2).bind fun q => match env[i]?, dKey p.1 with
  | some (.own (.d kvs)), some k => if kvs.length < 100000 then some (.nx (if (kvs.any fun p => decide (p.1 = k)) = true then env else env.set i (.own (.d (putO kvs k q.1)))) q.2) else none
  | _, _ => none
theorem valV_any {xs : List (Key × V)} {k : Key} : valV xs k = none ↔ (xs.any fun p => decide (p.1 = k)) = false := by
  unfold valV
  rw [Option.map_eq_none_iff, List.find?_eq_none, List.any_eq_false]
theorem pds_setd (i : Nat) {x : Str} {px apos cpos : Pos} (hx : PE X (.Name x px) (tVar i)) (h1 : PD X b e1 f1) (h2 : PD X b e2 f2) (m : M2 X (.Name x px) "setdefault" apos e1 e2 cpos)
    (hs : swapsWith (.Call (.Attribute (.Name x px) "setdefault" apos) [e1, e2] [] cpos) none pos.line X.env = pure false := by rfl) :
    PDS X b (.Expr (.Call (.Attribute (.Name x px) "setdefault" apos) [e1, e2] [] cpos) pos) (dSetD i f1 f2) := PS.imp (ps_expr (pe_dsetd hx h1 h2 m) hs) fun D σ H ⟨G0, H0, Gm, G, env, B, o, s, ev, k⟩ => by
  unfold dSetD at ev
  cases q1 : f1 env B with
  | none => rw [q1] at ev; cases ev
  | some p =>
    obtain ⟨d, B1⟩ := p
    rw [q1, Option.bind_some] at ev
    dsimp only at ev
    cases q2 : f2 env B1 with
    | none => rw [q2] at ev; cases ev
    | some p =>
      obtain ⟨c, B2⟩ := p
      rw [q2, Option.bind_some] at ev
      dsimp only at ev
      split at ev
      · rename_i kvs key he hk
        split at ev
        · rename_i hz
          cases ev
          have e := dKey_is hk
          subst e
          obtain ⟨p, o, r1, r2, r3, r4, xs, rfl, r5, r6⟩ := s.sl i _ he
          refine ⟨.ref p, r1, p, rfl, .inl ⟨xs, .inl r4⟩, ?_⟩
          refine ⟨G, env, B, _, B1, s.toSt, q1, fun w G1 H1 fr1 ex1 bg1 is1 => ?_⟩
          refine ⟨G1, env, B1, c, B2, s.toSt.step fr1 ex1 bg1, q2, fun v G2 H2 fr2 ex2 bg2 is2 => ?_⟩
          have fr12 := fr1.trans fr2 bg2.1
          have hp2 := fr12.keep p _ r4 r3
          have gp2 := fr12.hide p _ r4 r2
          have len : xs.length = kvs.length := by
            have z := congrArg List.length r5
            rw [List.length_map, List.length_map] at z
            exact z
          have same : (xs.any fun p => decide (p.1 = key)) = (kvs.any fun p => decide (p.1 = key)) := by
            have a1 : (xs.any fun p => decide (p.1 = key)) = (xs.map (·.1)).any fun z => decide (z = key) := by rw [List.any_map]; rfl
            have a2 : (kvs.any fun p => decide (p.1 = key)) = (kvs.map (·.1)).any fun z => decide (z = key) := by rw [List.any_map]; rfl
            rw [a1, a2, r5]
          have m : IsD X.K G2 xs (kvD kvs) := r6.mono fr12.ex
          refine ⟨xs, key, hp2, is1.key, sz_lt (by omega), fun u hu => ?_, fun hn => ?_⟩
          · have z : ¬ valV xs key = none := by rw [hu]; exact fun z => nomatch z
            rw [valV_any, Bool.not_eq_false, same] at z
            rw [z, if_pos rfl] at k
            exact k G2 σ _ (s.step fr12 ex2 bg2)
          · rw [valV_any, same] at hn
            rw [hn, if_neg Bool.false_ne_true] at k
            refine k G2 σ _ ((s.step fr12 ex2 bg2).own he r1 gp2 r3 ⟨_, rfl, keys_put r5, ?_⟩)
            rw [← kvD_put]
            exact m.put is2
        · cases ev
      · cases ev
end
end Dl

namespace Dl
open PySem L2 Evl PyProof.Rows
/-! DAB: == of two texts, two ints, None, whatever they are; else as before. -/
section
variable {X : Cx} {K : PySem.W.Frag}
def gEqS : PyData → PyData → Option PyData
  | .str x, .str y => some (.bool (x == y))
  | .int x, .int y => some (.bool (decide (x = y)))
  | .none, .none => some (.bool true)
  | .none, .str _ => some (.bool false)
  | .str _, .none => some (.bool false)
  | .none, .int _ => some (.bool false)
  | .int _, .none => some (.bool false)
  | _, _ => none
def gNeS : PyData → PyData → Option PyData
  | .str x, .str y => some (.bool (!(x == y)))
  | .int x, .int y => some (.bool (!decide (x = y)))
  | .none, .none => some (.bool false)
  | .none, .str _ => some (.bool true)
  | .str _, .none => some (.bool true)
  | .none, .int _ => some (.bool true)
  | .int _, .none => some (.bool true)
  | _, _ => none
theorem dec_intD {i j : Int} : decide (V.int i = V.int j) = decide (i = j) := by
  rw [Bool.eq_iff_iff]
  simp
theorem r_eqS : R2D K rEq gEqS := fun b G H x y a c d B Q ex bg ia ic eg k => by
  unfold gEqS at eg
  split at eg
  · cases ia; cases ic; cases eg
    exact ⟨rfl, by rw [dec_str]; exact k.val ex bg (.bl _)⟩
  · cases ia; cases ic; cases eg
    exact ⟨rfl, by rw [dec_intD]; exact k.val ex bg (.bl _)⟩
  all_goals first | (cases eg; done) | (cases ia; cases ic; cases eg; exact ⟨rfl, k.val ex bg (.bl _)⟩)
theorem r_neS : R2D K rNe gNeS := fun b G H x y a c d B Q ex bg ia ic eg k => by
  unfold gNeS at eg
  split at eg
  · cases ia; cases ic; cases eg
    exact ⟨rfl, by rw [dec_str]; exact k.val ex bg (.bl _)⟩
  · cases ia; cases ic; cases eg
    exact ⟨rfl, by rw [dec_intD]; exact k.val ex bg (.bl _)⟩
  all_goals first | (cases eg; done) | (cases ia; cases ic; cases eg; exact ⟨rfl, k.val ex bg (.bl _)⟩)
def gEqA := gOr gEqS gEq
def gNeA := gOr gNeS gNe
theorem op_eqA (hu : X.A.units + 64 < cLine) : OpR X (compareOp .Eq) (fun x y H Q => rEq x y H Q ∨ rEqD X.K x y H Q) := opr_or op_eq (op_eqD hu)
theorem op_neA (hu : X.A.units + 64 < cLine) : OpR X (compareOp .NotEq) (fun x y H Q => rNe x y H Q ∨ rNeD X.K x y H Q) := opr_or op_ne (op_neD hu)
theorem r_eqA : R2D K (fun x y H Q => rEq x y H Q ∨ rEqD K x y H Q) gEqA := r_orR r_eqS r_eq
theorem r_neA : R2D K (fun x y H Q => rNe x y H Q ∨ rNeD K x y H Q) gNeA := r_orR r_neS r_ne
end
end Dl

namespace Dl
open PySem L2 Evl PyProof.Rows
/-! DAC: a, b = a list or a tuple. -/
section
variable {X : Cx} {b : Addr} {pos : Pos}
theorem pg_or {tg : Expr} {t1 t2 : TG} (h1 : PG X tg t1) (h2 : PG X tg t2) : PG X tg (fun v σ H Q => t1 v σ H Q ∨ t2 v σ H Q) := ⟨fun pins s σ H v u Q I r h => by
  rcases h with h | h
  · exact h1.run pins s σ H v u Q I r h
  · exact h2.run pins s σ H v u Q I r h⟩
def gSeq (n : Nat) (r : DGs) : DG := fun d env => match d with
  | .tuple ds => if ds.length = n then r ds env else none
  | .list ds => if ds.length = n then r ds env else none
  | _ => none
theorem pdn_seq {es : List Expr} {k : Nat} {r : DGs} {n : Nat} (hc : X.calm = true) (h : PDGSs X b es r) (hn : (assignEach es X.env).length = n := by rfl) (hst : (assignEach es X.env).findIdx? (·.1) = none := by rfl) : PDGS X b (.Tuple es k pos) (gSeq n r) :=
  PG.imp (pg_or (pg_tup hc h hn hst) (pg_lst hc h hn hst)) fun v σ H Q ⟨G0, H0, Gm, G, env, B, d, env', s, is, ev, kk⟩ => by
    cases is with
    | @tup a xs ds ht hl =>
      have ev : (if ds.length = n then r ds env else none) = some env' := ev
      split at ev
      · exact .inl ⟨a, xs, rfl, ex_t s.ex ht.sq, by rw [hl.len]; assumption, G0, H0, Gm, G, env, B, ds, env', s, hl, ev, kk⟩
      · cases ev
    | @lst a xs ds ht hl =>
      have ev : (if ds.length = n then r ds env else none) = some env' := ev
      split at ev
      · exact .inr ⟨a, xs, rfl, sq_of (s.ex _ _ ht), by rw [hl.len]; assumption, G0, H0, Gm, G, env, B, ds, env', s, hl, ev, kk⟩
      · cases ev
    | _ => cases ev
end
end Dl

namespace Dl
open PySem L2 Evl PyProof.Rows
/-! DAD: sorted(d), d a dict: its keys, all ints or all texts. -/
section
variable {X : Cx} {b : Addr} {pos p : Pos} {e : Expr} {as : List DAr}
def gSortKI : List PyData → Option PyData
  | [.dict ds] => (intKs ds).bind fun ks => if ks.length < 64 then some (.list ((sortInt ks).map .int)) else none
  | _ => none
def gSortKS : List PyData → Option PyData
  | [.dict ds] => (strKs ds).bind fun ks => if ks.length < 64 then some (.list ((sortStr ks).map .str)) else none
  | _ => none
theorem r_sortKI {K : PySem.W.Frag} : RLD K (fun xs H Q => ∃ (a : Addr) (kvs : List (Key × V)) (ks : List Int), xs = [.ref a] ∧ Rd H a (.dK kvs) ∧ kvs.map (·.1) = ks.map Sum.inl ∧ ks.length < 64 ∧ ∀ (ys : List Int) (p : Addr), ys.Perm ks → ys.Pairwise (· ≤ ·) → H p = none → Q (.ref p) (upd H p (.lst (ys.map V.int)))) gSortKI := fun b G H xs as d B Q ex bg is eg k => by
  unfold gSortKI at eg
  split at eg
  · rename_i ds
    cases q : intKs ds with
    | none => rw [q] at eg; cases eg
    | some ks =>
      rw [q, Option.bind_some] at eg
      split at eg
      · rename_i hz
        cases eg
        cases is with
        | cons h r =>
          cases r
          cases h with
          | dct ha hd =>
            refine ⟨_, _, ks, rfl, .inl (ex _ _ ha), hd.intKs q, hz, fun ys p perm pw hp => ?_⟩
            rw [sortInt_one perm pw]
            exact k.lst ex bg hp (IsL.ints _)
      · cases eg
  · cases eg
theorem r_sortKS {K : PySem.W.Frag} : RLD K (fun xs H Q => ∃ (a : Addr) (kvs : List (Key × V)) (ks : List Str), xs = [.ref a] ∧ Rd H a (.dK kvs) ∧ kvs.map (·.1) = ks.map Sum.inr ∧ ks.length < 64 ∧ ∀ ys p, ys.Perm ks → sortedS ys = true → H p = none → Q (.ref p) (upd H p (.lst (ys.map V.str)))) gSortKS := fun b G H xs as d B Q ex bg is eg k => by
  unfold gSortKS at eg
  split at eg
  · rename_i ds
    cases q : strKs ds with
    | none => rw [q] at eg; cases eg
    | some ks =>
      rw [q, Option.bind_some] at eg
      split at eg
      · rename_i hz
        cases eg
        cases is with
        | cons h r =>
          cases r
          cases h with
          | dct ha hd =>
            refine ⟨_, _, ks, rfl, .inl (ex _ _ ha), hd.strKs q, hz, fun ys p perm pw hp => ?_⟩
            rw [sortStr_one perm pw]
            exact k.lst ex bg hp (IsL.strs _)
      · cases eg
  · cases eg
def gSortedA : List PyData → Option PyData := gOr1 gSorted (gOr1 gSortKI gSortKS)
theorem pd_sortedA {k : Nat} (room : Room k X.A) (hc : X.calm = true) (hm : X.mg "sorted" = none) (hg : Gl X "sorted") (ha : PDA X b [e] as) (he : starEach [e] X.env = (false, eval e X.env) :: starEach [] X.env := by rfl) : PD X b (.Call (.Name "sorted" p) [e] [] pos) (dCB gSortedA as) :=
  pd_or1 (pd_sorted room hm hg ha he) (pd_or1 (pd_cb (call_sortedDI hc) r_sortKI hg hm (by decide +kernel) ha (by decide) (by decide) he (by rfl)) (pd_cb (L2.call_sortedD hc) r_sortKS hg hm (by decide +kernel) ha (by decide) (by decide) he (by rfl)))
end
end Dl

namespace Dl
open PySem L2 Evl PyProof.Rows
/-! DAE: a comprehension over a list of one's own, its items no things that could be changed: the list stays one's own. -/
section
variable {K : PySem.W.Frag} {b : Addr} {G G' H : Hp} {σ : L2.St} {env : Env} {B B' : Bg}
theorem IsL.lone : ∀ {vs : List V} {ds : List PyData}, IsL K G vs ds → ds.all loneD = true → IsL K G' vs ds
  | _, _, .nil, _ => .nil
  | _, _, .cons h r, e => by
    rw [List.all_cons, Bool.and_eq_true] at e
    exact .cons (h.lone e.1) (IsL.lone r e.2)
def loneO : OC → Bool
  | .l ds => ds.all loneD
  | .d _ => false
def dPeekO (i : Nat) (f : DEO) : DEO := fun env B => match env[i]? with
  | some (.own c) => (f (env.set i (.sh c.data)) B).bind fun p => if loneO p.1 = true then some p else none
  | _ => f env B
theorem dPeekO_some {i : Nat} {f : DEO} {d : OC} (h : dPeekO i f env B = some (d, B')) : (f env B = some (d, B')) ∨ ∃ c, env[i]? = some (.own c) ∧ f (env.set i (.sh c.data)) B = some (d, B') ∧ loneO d = true := by
  unfold dPeekO at h
  split at h
  · rename_i c he
    cases h1 : f (env.set i (.sh c.data)) B with
    | none => rw [h1] at h; cases h
    | some p =>
      rw [h1, Option.bind_some] at h
      split at h
      · cases h
        exact .inr ⟨c, he, h1, by assumption⟩
      · cases h
  · exact .inl h
theorem tDN_peek {i : Nat} {f : DEO} : ∀ σ H Q, tDN K b (dPeekO i f) σ H Q → tDN K b f σ H Q := fun σ H Q ⟨G, env, B, d, B', s, ev, k⟩ => by
  rcases dPeekO_some ev with h | ⟨c, he, h, fl⟩
  · exact ⟨G, env, B, d, B', s, h, k⟩
  · obtain ⟨p, o, gp, hb, hp, s'⟩ := s.ss.freeze he
    refine ⟨_, _, B, d, B', s'.toSt, h, fun p2 o2 G1 H1 fr ex bg hp2 h2 gp2 hb2 oc => ?_⟩
    obtain ⟨f1, f2, f3⟩ := less_frm gp hb s.bag fr ex bg
    refine k p2 o2 _ H1 f1 f2 f3 hp2 h2 ?_ hb2 ?_
    · show (if p2 = p then none else G1 p2) = none
      split
      · rfl
      · exact gp2
    · cases d with
      | l ds =>
        obtain ⟨xs, rfl, h3⟩ := oc
        exact ⟨xs, rfl, h3.lone fl⟩
      | d _ => cases fl
end
section
variable {X : Cx} {b : Addr} {pos : Pos} {e tg : Expr} {st : Stmt} {sts : List Stmt}
theorem pds_setLcPW (i k0 : Nat) {y : Str} {py : Pos} {elt iter : Expr} {ifs : List Expr} {scope : Scope} (own : List (Str × Nat)) {spos : Pos} {fi : DI} {g : DG} {js : List Nat} {c f : DE} (hc : X.calm = true) (hN : X.N.Nodup) (hy : X.N[i]? = some y) (hyl : X.env.scope.names.lookup y = some .local)
    (hw : swapsWith (.ListComp elt [⟨tg, iter, ifs, 0⟩] scope pos) (some (.Name y py)) spos.line X.env = pure true) (hi : PDIW X b tg iter fi) (ok : BlkOk X.N X.env.scope scope own)
    (hg : ∀ (s : Shared) (H : Hp) (C : Addr) (cl : List (Str × Addr)) (fp : List Addr), PDGW (X.blk s H scope (compEnvC scope cl C X.env) fp) b tg g js)
    (ht : ∀ (s : Shared) (H : Hp) (C : Addr) (cl : List (Str × Addr)) (fp : List Addr), PDTs (X.blk s H scope (compEnvC scope cl C X.env) fp) b ifs c)
    (he : ∀ (s : Shared) (H : Hp) (C : Addr) (cl : List (Str × Addr)) (fp : List Addr), PD (X.blk s H scope (compEnvC scope cl C X.env) fp) b elt f)
    (hj : ∀ j ∈ js, j ∈ own.map (·.2) := by decide) (hs : ∀ x, foldedSetIterable iter X.env x = pure x := by intro _; rfl) :
    PDS X b (.Assign [.Name y py] (.ListComp elt [⟨tg, iter, ifs, 0⟩] scope pos) spos) (dAsg (gOne i) (dFzE (dPeekO k0 (dLcO fi g c f (own.map (·.2)))))) :=
  PS.imp (ps_setLc (g := tDGW X.K b g js) (tt := tDT X.K b c) (te := tD X.K b f) hc hN hy hyl hw hi ok hg ht he hs) fun D σ H ⟨G0, H0, Gm, G, env, B, o, s, ev, k⟩ => by
    obtain ⟨d, B1, e1, h1, h2, rfl⟩ := dAsg_some ev
    cases h2
    refine tDN_lcW hj σ H (fun x H1 => gName i x σ H1 D.nx) (tDN_peek σ H _ (tD_fz σ H _ ⟨G, env, B, d, B1, s.toSt, h1, fun v G1 H1 fr ex bg is => ?_⟩))
    exact k G1 _ H1 ((s.step fr ex bg).put is)
theorem pds_setLcP (i k0 : Nat) {y : Str} {py : Pos} {elt iter : Expr} {ifs : List Expr} {scope : Scope} (own : List (Str × Nat)) {spos : Pos} {fi : DI} {g : DG} {js : List Nat} {c f : DE} (hc : X.calm = true) (hN : X.N.Nodup) (hy : X.N[i]? = some y) (hyl : X.env.scope.names.lookup y = some .local)
    (hw : swapsWith (.ListComp elt [⟨tg, iter, ifs, 0⟩] scope pos) (some (.Name y py)) spos.line X.env = pure true) (hi : PDI X b tg iter fi) (ok : BlkOk X.N X.env.scope scope own)
    (hg : ∀ (s : Shared) (H : Hp) (C : Addr) (cl : List (Str × Addr)) (fp : List Addr), PDG (X.blk s H scope (compEnvC scope cl C X.env) fp) b tg g js)
    (ht : ∀ (s : Shared) (H : Hp) (C : Addr) (cl : List (Str × Addr)) (fp : List Addr), PDTs (X.blk s H scope (compEnvC scope cl C X.env) fp) b ifs c)
    (he : ∀ (s : Shared) (H : Hp) (C : Addr) (cl : List (Str × Addr)) (fp : List Addr), PD (X.blk s H scope (compEnvC scope cl C X.env) fp) b elt f)
    (hj : ∀ j ∈ js, j ∈ own.map (·.2) := by decide) (hs : ∀ x, foldedSetIterable iter X.env x = pure x := by intro _; rfl) :
    PDS X b (.Assign [.Name y py] (.ListComp elt [⟨tg, iter, ifs, 0⟩] scope pos) spos) (dAsg (gOne i) (dFzE (dPeekO k0 (dLcO fi g c f (own.map (·.2)))))) :=
  PS.imp (ps_setLc (g := tDG X.K b g js) (tt := tDT X.K b c) (te := tD X.K b f) hc hN hy hyl hw hi ok hg ht he hs) fun D σ H ⟨G0, H0, Gm, G, env, B, o, s, ev, k⟩ => by
    obtain ⟨d, B1, e1, h1, h2, rfl⟩ := dAsg_some ev
    cases h2
    refine tDN_lc hj σ H (fun x H1 => gName i x σ H1 D.nx) (tDN_peek σ H _ (tD_fz σ H _ ⟨G, env, B, d, B1, s.toSt, h1, fun v G1 H1 fr ex bg is => ?_⟩))
    exact k G1 _ H1 ((s.step fr ex bg).put is)
end
end Dl

namespace Dl
open PySem L2 Evl PyProof.Rows
/-! DAF: a name of the text's top that holds a tuple of texts; min of a list of data that are alike. -/
def strsOf : List Value → Option (List Str)
  | [] => some []
  | .str x _ :: r => (strsOf r).map fun l => x :: l
  | _ => none
theorem strsOf_vals : ∀ {us : List Value} {xs : List Str}, strsOf us = some xs → Vals (xs.map V.str) us
  | [], _, e => by
    cases e
    exact .nil
  | u :: us, xs, e => by
    cases u with
    | str x t =>
      unfold strsOf at e
      cases q : strsOf us with
      | none => rw [q] at e; cases e
      | some l =>
        rw [q] at e
        cases e
        exact .cons ⟨t, rfl⟩ (strsOf_vals q)
    | _ => cases e
/-- the top's name x holds a tuple of these texts -/
def GlT (K : PySem.W.Frag) (mg : Str → Option Value) (x : Str) (xs : List Str) : Prop := ∃ a, mg x = some (.ref a) ∧ PlT K (fun _ => none) a (xs.map V.str)
theorem glT_mk {K : PySem.W.Frag} {mg : Str → Option Value} {x : Str} {xs : List Str} {a : Addr} {its : Array Value} {n : Nat} {sl : Array (Option Value)} (hm : mg x = some (.ref a)) (hl : K.lookup a = some ⟨.type "tuple", none, .seq its n, sl⟩) (hs : strsOf its.toList = some xs) (hz : xs.length ≤ 1000) : GlT K mg x xs :=
  ⟨a, hm, .inr ⟨_, its, n, hl, rfl, rfl, rfl, by
    have v : (xs.map V.str).length = its.size := (strsOf_vals hs).length
    rw [List.length_map] at v
    rw [← v, sizeLine_eq]
    omega, strsOf_vals hs⟩⟩
section
variable {X : Cx} {b : Addr} {pos p : Pos} {e : Expr} {as : List DAr}
theorem pd_glT {x : Str} {xs : List Str} (h : GlT X.K X.mg x xs) (hg : Gl X x) (hd : (x == ("__debug__" : Str)) = false := by decide) : PD X b (.Name x pos) (dC (.tuple (xs.map .str))) := by
  obtain ⟨a, hm, ht⟩ := h
  refine PE.imp (pe_glob (v := .ref a) hg hm rfl hd) fun σ H Q ⟨G, env, B, d, B', s, ev, k⟩ => ?_
  cases ev
  refine k.val s.ex s.bag (.tup ?_ (IsL.strs xs))
  rcases ht with ⟨ob, h, _⟩ | h
  · cases h
  · exact .inr h
/-! ### min of a list of data -/
def rMinD (K : PySem.W.Frag) : List V → Hp → VK → Prop := fun xs H Q => ∃ (a : Addr) (q0 : V × PyData) (qs : List (V × PyData)), xs = [.ref a] ∧ H a = some (.lst ((q0 :: qs).map (·.1))) ∧ (∀ q ∈ q0 :: qs, Dp K H q.1 q.2) ∧ sortOk ((q0 :: qs).map (·.2)) = true ∧
  ∀ q ∈ q0 :: qs, q.2 = PySem.W.minD q0.2 (qs.map (·.2)) → Q q.1 H
theorem all_reads {h : Heap} : ∀ {us : List Value} {qs : List (V × PyData)}, PySem.W.EachIs (fun (u : Value) (q : V × PyData) => ∃ as, Reads h u q.2 as) us qs → ∃ as, ReadsAll h us (qs.map (·.2)) as
  | _, _, .nil => ⟨_, .nil⟩
  | _, _, .cons ⟨as, r⟩ t => by
    obtain ⟨bs, r'⟩ := all_reads t
    exact ⟨_, .cons r r'⟩
theorem each_at {α β : Type} {R : α → β → Prop} : ∀ {us : List α} {qs : List β} {i : Nat} {u : α}, PySem.W.EachIs R us qs → us[i]? = some u → ∃ q, qs[i]? = some q ∧ R u q
  | _, _, 0, _, .cons r _, e => by
    cases e
    exact ⟨_, rfl, r⟩
  | _, _, i + 1, _, .cons _ t, e => each_at (i := i) t e
theorem depthAll_le {n : Nat} : ∀ {ds : List PyData}, (∀ d ∈ ds, d.depth ≤ n) → PyData.depthAll ds ≤ n
  | [], _ => Nat.zero_le _
  | d :: ds, h => by
    show max d.depth (PyData.depthAll ds) ≤ n
    have h1 := h d List.mem_cons_self
    have h2 := depthAll_le fun e he => h e (List.mem_cons_of_mem _ he)
    omega
theorem call_minD {k : Nat} (room : Room k X.A) (hc : X.calm = true) : CallR X (.builtin "min") (rMinD X.K) := by
  intro pins s σ H xs us Q I r h
  obtain ⟨a, q0, qs, rfl, ha, hd, ok, q⟩ := h
  rw [Vals.ref1 r]
  obtain ⟨its, rv, hl, _⟩ := I.list (sq_of ha)
  unfold sortOk at ok
  simp only [Bool.and_eq_true, Bool.or_eq_true, List.all_eq_true, decide_eq_true_eq] at ok
  obtain ⟨⟨o1, o2⟩, o3⟩ := ok
  have un := room.un
  have ev := each_vals rv
  have er := each_reads I rv hd
  obtain ⟨as, ra⟩ := all_reads er
  have dep := depthAll_le (n := 60) fun d hd => (o3 d hd).2
  rw [List.map_cons] at ra o1 dep o2
  have ra' : ReadsAll s.heap its.toArray.toList (q0.2 :: qs.map (·.2)) as := ra
  refine PySem.W.min_list_data (I.ok.hd hc) hl.isList ra' ⟨o1, fun d hd e => ?_⟩ (by omega) fun i v h' tk bs hv hr keep => ?_
  · subst e
    rcases o2 with z | z
    · have z' := z _ hd
      cases z'
    · have z' := z _ hd
      cases z'
  · have hv : its[i]? = some v := by rw [← List.getElem?_toArray]; exact hv
    obtain ⟨q1, h1, h2⟩ := each_at ev hv
    obtain ⟨q2, h3, as2, h4⟩ := each_at er hv
    rw [h1] at h3
    cases h3
    have e := (PyProof.Rows.reads_det (fun b o e _ => keep b o e) h4 hr).1
    exact ⟨q1.1, H, I.kept (t' := tk) keep, h2, q q1 (List.mem_of_getElem? h1) e.symm⟩
def gMinD : List PyData → Option PyData
  | [.list (d :: ds)] => if sortOk (d :: ds) then some (PySem.W.minD d ds) else none
  | _ => none
theorem minD_mem : ∀ (ds : List PyData) (d : PyData), PySem.W.minD d ds ∈ d :: ds
  | [], d => List.mem_cons_self
  | e :: ds, d => by
    show PySem.W.minD (if PySem.W.dataLt e d then e else d) ds ∈ _
    have := minD_mem ds (if PySem.W.dataLt e d then e else d)
    rcases List.mem_cons.mp this with h | h
    · rw [h]
      split <;> simp
    · exact List.mem_cons_of_mem _ (List.mem_cons_of_mem _ h)
theorem r_minD {K : PySem.W.Frag} : RLD K (rMinD K) gMinD := fun b G H xs as d B Q ex bg is eg k => by
  unfold gMinD at eg
  split at eg
  · rename_i d0 ds
    split at eg
    · rename_i hh
      cases eg
      cases is with
      | cons hd r =>
        cases r
        cases hd with
        | @lst a vs _ ha hl =>
          have len := hl.len
          have hl' := hl
          cases hl' with
          | @cons v0 vs _ _ h0 hr =>
            have len' := hr.len
            have lay : ∀ d ∈ d0 :: ds, d.canLay0 = true := fun d hd => by
              have z := hh
              unfold sortOk at z
              simp only [Bool.and_eq_true, List.all_eq_true] at z
              exact (z.2 d hd).1
            have zs : ((v0, d0) :: vs.zip ds).map (·.2) = d0 :: ds := by rw [List.map_cons, zip_snd len']
            refine ⟨a, (v0, d0), vs.zip ds, rfl, by rw [List.map_cons, zip_fst len']; exact ex _ _ ha, fun q hq => ?_, by rw [zs]; exact hh, fun q hq e => ?_⟩
            · have m : q.2 ∈ d0 :: ds := by
                rw [← zs]
                exact List.mem_map.mpr ⟨q, hq, rfl⟩
              exact (hl.zip q hq).dp ex (lay _ m)
            · have i := hl.zip q hq
              rw [e, zip_snd len'] at i
              exact k.val ex bg i
    · cases eg
  · cases eg
def gMinA : List PyData → Option PyData := gOr1 gMin gMinD
theorem pd_minA {k : Nat} (room : Room k X.A) (hc : X.calm = true) (hm : X.mg "min" = none) (hg : Gl X "min") (ha : PDA X b [e] as) (he : starEach [e] X.env = (false, eval e X.env) :: starEach [] X.env := by rfl) : PD X b (.Call (.Name "min" p) [e] [] pos) (dCB gMinD as) :=
  pd_cb (call_minD room hc) r_minD hg hm (by decide +kernel) ha (by decide) (by decide) he (by rfl)
end
end Dl

namespace Dl
open PySem L2 Evl PyProof.Rows
/-! DAG: comprehensions of two clauses. In the inner one names of one's own things are out of sight. -/
def noOwn (env : Env) : Env := env.map fun s => match s with
  | .own _ => .no
  | s => s
section
variable {K : PySem.W.Frag} {b : Addr} {G G' H H' : Hp} {σ : L2.St} {env : Env} {B B' : Bg}
theorem noOwn_get {i : Nat} {s : Sl} (h : (noOwn env)[i]? = some s) : (s = .no ∨ env[i]? = some s) ∧ ∀ c, s ≠ .own c := by
  unfold noOwn at h
  rw [List.getElem?_map] at h
  cases q : env[i]? with
  | none => rw [q] at h; cases h
  | some t =>
    rw [q] at h
    cases t <;> cases h
    · exact ⟨.inl rfl, fun _ z => nomatch z⟩
    · exact ⟨.inr rfl, fun _ z => nomatch z⟩
    · exact ⟨.inl rfl, fun _ z => nomatch z⟩
    · exact ⟨.inr rfl, fun _ z => nomatch z⟩
theorem St.hop (x : St K b G σ H env B) (f : Ex G G') (e : Ex G' H') (g : BagAt b G' H' B') : St K b G' σ H' (noOwn env) B' where
  ex := e
  bag := g
  len := by
    unfold noOwn
    rw [List.length_map]
    exact x.len
  sl := fun i s h => by
    obtain ⟨h1, h2⟩ := noOwn_get h
    cases s with
    | no => trivial
    | sh d =>
      rcases h1 with h1 | h1
      · cases h1
      · obtain ⟨v, z1, z2⟩ := x.sl i _ h1
        exact ⟨v, z1, z2.mono f⟩
    | own c => exact absurd rfl (h2 c)
    | bag =>
      rcases h1 with h1 | h1
      · cases h1
      · exact x.sl i _ h1
  dis := fun i j ds es p h1 => absurd rfl ((noOwn_get h1).2 ds)
end
def lcGo2 (tg : DG) (c : DE) (fi1 : DI) (tg1 : DG) (c1 f : DE) (vs1 : List Nat) (env : Env) : List PyData → Bg → Option (List PyData × Bg)
  | [], B => some ([], B)
  | d :: ds, B => (tg d env).bind fun e1 => (c e1 B).bind fun p => match p.1 with
    | .bool true => (fi1 e1 p.2).bind fun q => if q.1.length ≤ 1000 then (lcGo tg1 c1 f (noOwn (wipeE e1 vs1)) q.1 q.2).bind fun r => (lcGo2 tg c fi1 tg1 c1 f vs1 env ds r.2).map fun z => (r.1 ++ z.1, z.2) else none
    | .bool false => lcGo2 tg c fi1 tg1 c1 f vs1 env ds p.2
    | _ => none
def dLc2 (fi : DI) (tg : DG) (c : DE) (fi1 : DI) (tg1 : DG) (c1 f : DE) (vs vs1 : List Nat) : DE := fun env B => (fi env B).bind fun p => if p.1.length ≤ 1000 then (lcGo2 tg c fi1 tg1 c1 f vs1 (wipeE env vs) p.1 p.2).map fun q => (.list q.1, q.2) else none
theorem lcGo2_cons {tg tg1 : DG} {c c1 f : DE} {fi1 : DI} {vs1 : List Nat} {env : Env} {d : PyData} {ds es : List PyData} {B B' : Bg} (h : lcGo2 tg c fi1 tg1 c1 f vs1 env (d :: ds) B = some (es, B')) : ∃ e1 t B1, tg d env = some e1 ∧ c e1 B = some (.bool t, B1) ∧
    (if t = true then ∃ ds1 B2 rs B3 zs, fi1 e1 B1 = some (ds1, B2) ∧ ds1.length ≤ 1000 ∧ lcGo tg1 c1 f (noOwn (wipeE e1 vs1)) ds1 B2 = some (rs, B3) ∧ lcGo2 tg c fi1 tg1 c1 f vs1 env ds B3 = some (zs, B') ∧ es = rs ++ zs else lcGo2 tg c fi1 tg1 c1 f vs1 env ds B1 = some (es, B')) := by
  unfold lcGo2 at h
  cases h1 : tg d env with
  | none => rw [h1] at h; cases h
  | some e1 =>
    rw [h1, Option.bind_some] at h
    cases h2 : c e1 B with
    | none => rw [h2] at h; cases h
    | some p =>
      obtain ⟨a, B1⟩ := p
      rw [h2, Option.bind_some] at h
      dsimp only at h
      split at h
      · cases h3 : fi1 e1 B1 with
        | none => rw [h3] at h; cases h
        | some q =>
          obtain ⟨ds1, B2⟩ := q
          rw [h3, Option.bind_some] at h
          dsimp only at h
          split at h
          · rename_i hz
            cases h4 : lcGo tg1 c1 f (noOwn (wipeE e1 vs1)) ds1 B2 with
            | none => rw [h4] at h; cases h
            | some r =>
              obtain ⟨rs, B3⟩ := r
              rw [h4, Option.bind_some] at h
              dsimp only at h
              cases h5 : lcGo2 tg c fi1 tg1 c1 f vs1 env ds B3 with
              | none => rw [h5] at h; cases h
              | some z =>
                obtain ⟨zs, B4⟩ := z
                rw [h5] at h
                cases h
                exact ⟨e1, true, B1, rfl, h2, by rw [if_pos rfl]; exact ⟨ds1, B2, rs, B3, zs, h3, hz, h4, h5, rfl⟩⟩
          · cases h
      · exact ⟨e1, false, B1, rfl, h2, by rw [if_neg Bool.false_ne_true]; exact h⟩
      · cases h
section
variable {X : Cx} {b : Addr} {pos : Pos} {tg0 tg1 : Expr}
theorem tD_lc2 {K : PySem.W.Frag} {fi fi1 : DI} {tg tg1 : DG} {js js1 vs vs1 : List Nat} {c c1 f : DE} (hj : ∀ j ∈ js, j ∈ vs) (hj1 : ∀ j ∈ js1, j ∈ vs1) : ∀ σ H Q, tD K b (dLc2 fi tg c fi1 tg1 c1 f vs vs1) σ H Q → tLc2 (tDI K b fi) (tDG K b tg js) (tDT K b c) (tDI K b fi1) (tDG K b tg1 js1) (tDT K b c1) (tD K b f) vs vs1 σ H Q := fun σ H Q ⟨G, env, B, d, B', s, ev, k⟩ => by
  unfold dLc2 at ev
  cases h1 : fi env B with
  | none => rw [h1] at ev; cases ev
  | some p =>
    obtain ⟨ds, B1⟩ := p
    rw [h1, Option.bind_some] at ev
    dsimp only at ev
    split at ev
    · rename_i hsz
      cases h2 : lcGo2 tg c fi1 tg1 c1 f vs1 (wipeE env vs) ds B1 with
      | none => rw [h2] at ev; cases ev
      | some q =>
        obtain ⟨es, B2⟩ := q
        rw [h2] at ev
        simp only [Option.map_some, Option.some.injEq, Prod.mk.injEq] at ev
        obtain ⟨rfl, rfl⟩ := ev
        refine ⟨G, env, B, ds, B1, s, h1, fun J G1 H1 fr1 ex1 bg1 it => ?_⟩
        intro D hDn
        have hDb : D ≠ b := fun e => by
          obtain ⟨o, ho⟩ := bg1.at
          rw [← e, hDn] at ho
          cases ho
        have s1 := (s.step fr1 ex1 bg1).wipe vs
        have gD : G1 D = none := ex_none ex1 hDn
        refine ⟨fun i m H => m = ds.length - i ∧ i ≤ ds.length ∧ ∃ G2 B3 acc ads rest, LcInv K b D G1 H1 G2 H B3 acc ads ∧ ads.length ≤ 1000 * i ∧ lcGo2 tg c fi1 tg1 c1 f vs1 (wipeE env vs) (ds.drop i) B3 = some (rest, B2) ∧ es = ads ++ rest, ⟨ds.length, rfl, Nat.zero_le _, G1, B1, [], [], es, ?_, Nat.zero_le _, by simpa using h2, rfl⟩, ?_⟩
        · exact ⟨⟨Ex.refl _, fun a o h _ => by rw [upd_ne (ne_of_none h hDn)]; exact h, fun _ _ _ n => n, fun c h => h.new hDn⟩, ex1.trans (Ex.new hDn), gD, by
            obtain ⟨h1, c, h2, h3⟩ := bg1
            exact ⟨h1, c, by rw [upd_ne hDb.symm]; exact h2, h3⟩, upd_same, .nil⟩
        · rintro i m H' ⟨rfl, hi, G2, B3, acc, ads, rest, L, hn, hr, he⟩
          obtain ⟨z1, z2⟩ := it i G2 H' B3 L.frm.ex L.ex L.bag
          by_cases hlt : i < ds.length
          · have hd : ds[i]? = some ds[i] := List.getElem?_eq_getElem hlt
            obtain ⟨go, yl⟩ := z2 _ hd
            rw [List.drop_eq_getElem_cons hlt] at hr
            obtain ⟨e1, t, B4, hg, hc, ht⟩ := lcGo2_cons hr
            refine .inr ⟨go, fun H => ∃ G2 B3 acc ads rest, LcInv K b D G1 H1 G2 H B3 acc ads ∧ ads.length ≤ 1000 * (i + 1) ∧ lcGo2 tg c fi1 tg1 c1 f vs1 (wipeE env vs) (ds.drop (i + 1)) B3 = some (rest, B2) ∧ es = ads ++ rest, fun H3 hN => ⟨ds.length - (i + 1), by omega, rfl, hlt, hN⟩, fun x H3 y => ?_⟩
            obtain ⟨G3, fr3, ex3, bg3, is3⟩ := yl x H3 y
            have L3 := L.step hDb fr3 ex3 bg3
            have s3 : St K b G3 (wipe σ vs) H3 (wipeE env vs) B3 := s1.step (L.frm.trans fr3 bg3.1) ex3 bg3
            refine ⟨G3, wipeE env vs, B3, ds[i], e1, s3, is3, hg, fun σ2 w2 s4 => ?_⟩
            refine ⟨(w2 vs hj).trans wipe_idem, G3, e1, B3, t, B4, s4, hc, fun G4 H4 fr4 ex4 bg4 => ?_⟩
            have L4 := L3.step hDb fr4 ex4 bg4
            have s5 := s4.step fr4 ex4 bg4
            cases t with
            | true =>
              rw [if_pos rfl] at ht
              obtain ⟨ds1, B5, rs, B6, zs, hf1, hz1, hl1, hl2, rfl⟩ := ht
              refine iteT ?_
              refine ⟨G4, e1, B4, ds1, B5, s5, hf1, fun J1 G5 H5 fr5 ex5 bg5 it1 => ?_⟩
              have L5 := L4.step hDb fr5 ex5 bg5
              have s6 := (s5.step fr5 ex5 bg5).wipe vs1
              refine ⟨fun j m H => m = ds1.length - j ∧ j ≤ ds1.length ∧ ∃ G6 B7 acc1 ads1 rest1, LcInv K b D G1 H1 G6 H B7 acc1 (ads ++ ads1) ∧ Ex G5 G6 ∧ ads1.length ≤ j ∧ lcGo tg1 c1 f (noOwn (wipeE e1 vs1)) (ds1.drop j) B7 = some (rest1, B6) ∧ rs = ads1 ++ rest1, ⟨ds1.length, rfl, Nat.zero_le _, G5, B5, acc, [], rs, by rw [List.append_nil]; exact L5, Ex.refl _, Nat.le_refl _, by simpa using hl1, rfl⟩, ?_⟩
              rintro j m H6 ⟨rfl, hj2, G6, B7, acc1, ads1, rest1, L6, x6, hn1, hr1, he1⟩
              obtain ⟨y1, y2⟩ := it1 j G6 H6 B7 x6 L6.ex L6.bag
              by_cases hlt1 : j < ds1.length
              · have hd1 : ds1[j]? = some ds1[j] := List.getElem?_eq_getElem hlt1
                obtain ⟨go1, yl1⟩ := y2 _ hd1
                rw [List.drop_eq_getElem_cons hlt1] at hr1
                obtain ⟨e2, t1, B8, hg1, hc1, ht1⟩ := lcGo_cons hr1
                refine .inr ⟨go1, fun H => ∃ G6 B7 acc1 ads1 rest1, LcInv K b D G1 H1 G6 H B7 acc1 (ads ++ ads1) ∧ Ex G5 G6 ∧ ads1.length ≤ j + 1 ∧ lcGo tg1 c1 f (noOwn (wipeE e1 vs1)) (ds1.drop (j + 1)) B7 = some (rest1, B6) ∧ rs = ads1 ++ rest1, fun H3 hN => ⟨ds1.length - (j + 1), by omega, rfl, hlt1, hN⟩, fun x H7 y => ?_⟩
                obtain ⟨G7, fr7, ex7, bg7, is7⟩ := yl1 x H7 y
                have L7 := L6.step hDb fr7 ex7 bg7
                have s7 := s6.hop (x6.trans fr7.ex) ex7 bg7
                refine ⟨G7, noOwn (wipeE e1 vs1), B7, ds1[j], e2, s7, is7, hg1, fun σ3 w3 s8 => ?_⟩
                refine ⟨(w3 vs1 hj1).trans wipe_idem, G7, e2, B7, t1, B8, s8, hc1, fun G8 H8 fr8 ex8 bg8 => ?_⟩
                have L8 := L7.step hDb fr8 ex8 bg8
                cases t1 with
                | true =>
                  rw [if_pos rfl] at ht1
                  obtain ⟨r1, B9, rs1, hf, hr9, rfl⟩ := ht1
                  refine iteT ?_
                  refine ⟨G8, e2, B8, r1, B9, s8.step fr8 ex8 bg8, hf, fun v G9 H9 fr9 ex9 bg9 is9 => ?_⟩
                  have L9 := L8.step hDb fr9 ex9 bg9
                  have hal : acc1.length ≤ 1000 * i + j := by
                    rw [L6.is.len, List.length_append]
                    omega
                  have L10 := L9.push hDb hDn is9
                  rw [List.append_assoc] at L10
                  exact ⟨acc1, L9.at', by rw [sizeLine_eq]; omega, G9, B9, acc1 ++ [v], ads1 ++ [r1], rs1, L10, x6.trans (fr7.ex.trans (fr8.ex.trans fr9.ex)), by rw [List.length_append]; show _ + 1 ≤ _; omega, hr9, by rw [he1, List.append_assoc]; rfl⟩
                | false =>
                  rw [if_neg Bool.false_ne_true] at ht1
                  refine iteF ?_
                  exact ⟨G8, B8, acc1, ads1, rest1, L8, x6.trans (fr7.ex.trans fr8.ex), by omega, ht1, he1⟩
              · refine .inl ⟨y1 (by omega), ?_⟩
                rw [List.drop_eq_nil_of_le (by omega)] at hr1
                cases hr1
                rw [List.append_nil] at he1
                subst he1
                exact ⟨G6, _, acc1, ads ++ rs, zs, L6, by rw [List.length_append]; omega, hl2, by rw [he, List.append_assoc]⟩
            | false =>
              rw [if_neg Bool.false_ne_true] at ht
              refine iteF ?_
              exact ⟨G4, B4, acc, ads, rest, L4, by omega, ht, he⟩
          · refine .inl ⟨z1 (by omega), ?_⟩
            rw [List.drop_eq_nil_of_le (by omega)] at hr
            cases hr
            rw [List.append_nil] at he
            subst he
            have gD2 : G2 D = none := L.no
            refine k (.ref D) (upd G2 D (.lst acc)) H' ⟨fr1.ex.trans (L.frm.ex.trans (Ex.new gD2)), fun a o h n => L.frm.keep a o (fr1.keep a o h n) n, fun a o h n => ?_, fun c h => L.frm.cell c (fr1.cell c h)⟩ (fun a o h => ?_) ⟨?_, ?_⟩ (.lst upd_same (L.is.mono (Ex.new gD2)))
            · have h' : a ≠ D := by
                intro e
                subst e
                by_cases hab : a = b
                · exact hDb hab
                · have := fr1.keep a o h hab
                  rw [hDn] at this
                  cases this
              rw [upd_ne h']
              by_cases hab : a = b
              · rw [hab]; exact L.bag.1
              · exact L.frm.hide a o (fr1.keep a o h hab) (fr1.hide a o h n)
            · by_cases e : a = D
              · subst e
                rw [upd_same] at h
                cases h
                exact L.at'
              · rw [upd_ne e] at h
                exact L.ex a o h
            · rw [upd_ne hDb.symm]; exact L.bag.1
            · obtain ⟨h1, c', h2, h3⟩ := L.bag
              exact ⟨c', h2, by rw [upd_ne (ne_of_none h3 gD2)]; exact h3⟩
    · cases ev
theorem pd_lc2 {elt iter iter1 : Expr} {ifs ifs1 : List Expr} {scope : Scope} (own : List (Str × Nat)) (vs1 : List Nat) {fi fi1 : DI} {g g1 : DG} {js js1 : List Nat} {c c1 f : DE} (hc : X.calm = true) (hN : X.N.Nodup) (hi : PDI X b tg0 iter fi) (ok : BlkOk X.N X.env.scope scope own)
    (hv : ∀ i ∈ vs1, i ∈ own.map (·.2))
    (hg : ∀ (s : Shared) (H : Hp) (C : Addr) (cl : List (Str × Addr)) (fp : List Addr), PDG (X.blk s H scope (compEnvC scope cl C X.env) fp) b tg0 g js)
    (ht : ∀ (s : Shared) (H : Hp) (C : Addr) (cl : List (Str × Addr)) (fp : List Addr), PDTs (X.blk s H scope (compEnvC scope cl C X.env) fp) b ifs c)
    (hi1 : ∀ (s : Shared) (H : Hp) (C : Addr) (cl : List (Str × Addr)) (fp : List Addr), PDI (X.blk s H scope (compEnvC scope cl C X.env) fp) b tg1 iter1 fi1)
    (hg1 : ∀ (s : Shared) (H : Hp) (C : Addr) (cl : List (Str × Addr)) (fp : List Addr), PDG (X.blk s H scope (compEnvC scope cl C X.env) fp) b tg1 g1 js1)
    (ht1 : ∀ (s : Shared) (H : Hp) (C : Addr) (cl : List (Str × Addr)) (fp : List Addr), PDTs (X.blk s H scope (compEnvC scope cl C X.env) fp) b ifs1 c1)
    (he : ∀ (s : Shared) (H : Hp) (C : Addr) (cl : List (Str × Addr)) (fp : List Addr), PD (X.blk s H scope (compEnvC scope cl C X.env) fp) b elt f)
    (hj : ∀ j ∈ js, j ∈ own.map (·.2) := by decide) (hj1 : ∀ j ∈ js1, j ∈ vs1 := by decide) (hs : ∀ x, foldedSetIterable iter X.env x = pure x := by intro _; rfl) (hs1 : ∀ env x, foldedSetIterable iter1 env x = pure x := by intro _ _; rfl) :
    PD X b (.ListComp elt [⟨tg0, iter, ifs, 0⟩, ⟨tg1, iter1, ifs1, 0⟩] scope pos) (dLc2 fi g c fi1 g1 c1 f (own.map (·.2)) vs1) :=
  PE.imp (pe_lc2 (g := tDG X.K b g js) (tt := tDT X.K b c) (g1 := tDG X.K b g1 js1) (tt1 := tDT X.K b c1) (wi1 := tDI X.K b fi1) (te := tD X.K b f) hc hN hi ok hv hg ht hi1 hg1 ht1 he hs hs1) (tD_lc2 hj hj1)
end
end Dl

namespace Dl
open PySem L2 Evl PyProof.Rows
/-! DAH: in and not in over a list of data of any depth. -/
section
variable {K : PySem.W.Frag} {X : Cx} {b : Addr} {pos : Pos} {e1 e2 : Expr} {f1 f2 : DE}
def gInP : PyData → PyData → Option PyData
  | x, .list ys => if SeqAt.shaped x && SeqAt.shaped (.list ys) then some (.bool (inD x ys)) else none
  | _, _ => none
def gNotInP : PyData → PyData → Option PyData
  | x, .list ys => if SeqAt.shaped x && SeqAt.shaped (.list ys) then some (.bool (!inD x ys)) else none
  | _, _ => none
theorem r_inP : R2D K (rInD K) gInP := fun b G H x y a c d B Q ex bg ia ic eg k => by
  unfold gInP at eg
  split at eg
  · split at eg
    · rename_i h
      rw [Bool.and_eq_true] at h
      cases eg
      exact ⟨_, _, ia.dpS ex h.1, ic.dpS ex h.2, h.1, h.2, k.val ex bg (.bl _)⟩
    · cases eg
  · cases eg
theorem r_notinP : R2D K (rNotInD K) gNotInP := fun b G H x y a c d B Q ex bg ia ic eg k => by
  unfold gNotInP at eg
  split at eg
  · split at eg
    · rename_i h
      rw [Bool.and_eq_true] at h
      cases eg
      exact ⟨_, _, ia.dpS ex h.1, ic.dpS ex h.2, h.1, h.2, k.val ex bg (.bl _)⟩
    · cases eg
  · cases eg
def gInB : PyData → PyData → Option PyData := gOr gInA gInP
def gNotInB : PyData → PyData → Option PyData := gOr gNotInA gNotInP
theorem pd_inB (hu : X.A.units + 1 < cLine) (hu2 : X.A.units + 65 < cLine) (h1 : PD X b e1 f1) (h2 : PD X b e2 f2) (hm : behindInMarks .In e2 = false := by first | exact nomark _ | rfl) : PD X b (.Compare e1 [.In] [e2] pos) (dBin gInB f1 f2) := pd_orB (pd_inA hu h1 h2 hm) (pd_cmp (op_inD hu2) r_inP h1 h2 hm)
theorem pd_notinB (hu : X.A.units + 1 < cLine) (hu2 : X.A.units + 65 < cLine) (h1 : PD X b e1 f1) (h2 : PD X b e2 f2) (hm : behindInMarks .NotIn e2 = false := by first | exact nomark _ | rfl) : PD X b (.Compare e1 [.NotIn] [e2] pos) (dBin gNotInB f1 f2) := pd_orB (pd_notinA hu h1 h2 hm) (pd_cmp (op_notInD hu2) r_notinP h1 h2 hm)
theorem pdt_inB (hu : X.A.units + 1 < cLine) (hu2 : X.A.units + 65 < cLine) (h1 : PD X b e1 f1) (h2 : PD X b e2 f2) (hm : behindInMarks .In e2 = false := by first | exact nomark _ | rfl) : PDT X b (.Compare e1 [.In] [e2] pos) (dBin gInB f1 f2) := pdt_orB (pdt_inA hu h1 h2 hm) (pdt_cmp (op_inD hu2) r_inP h1 h2 hm)
theorem pdt_notinB (hu : X.A.units + 1 < cLine) (hu2 : X.A.units + 65 < cLine) (h1 : PD X b e1 f1) (h2 : PD X b e2 f2) (hm : behindInMarks .NotIn e2 = false := by first | exact nomark _ | rfl) : PDT X b (.Compare e1 [.NotIn] [e2] pos) (dBin gNotInB f1 f2) := pdt_orB (pdt_notinA hu h1 h2 hm) (pdt_cmp (op_notInD hu2) r_notinP h1 h2 hm)
end
end Dl

/-! DAI: sorted(xs), xs a tuple of ints. -/
namespace Dl
open PySem L2 Evl PyProof.Rows
section
variable {X : Cx} {b : Addr} {pos p : Pos} {e : Expr} {as : List DAr}
def rSortTI (K : PySem.W.Frag) : List V → Hp → VK → Prop := fun xs H Q => ∃ (a : Addr) (ns : List Int), xs = [.ref a] ∧ SqT K H a (ns.map V.int) ∧ ns.length < 64 ∧
  ∀ (ys : List Int) (p : Addr), ys.Perm ns → ys.Pairwise (· ≤ ·) → H p = none → Q (.ref p) (upd H p (.lst (ys.map V.int)))
theorem call_sortedTI : CallR X (.builtin "sorted") (rSortTI X.K) := by
  intro pins s σ H xs us Q I r q
  obtain ⟨a, ns, rfl, ht, h64, q⟩ := q
  rw [Vals.ref1 r]
  obtain ⟨its, rv, pl, hz⟩ := I.tuple ht
  obtain ⟨o, ho, hc, n, hd⟩ := pl
  have hi : IntsAre its ns := rv.ints
  have hlen := rv.length
  rw [List.length_map] at hlen
  refine Calls.call_function_entry PyProof.Rows.kind_sorted PyProof.Rows.plain_sorted PyProof.Rows.entry_sorted (PyProof.Rows.args_sorted1 _) ?_
  unfold Builtin.«sorted»
  refine wpAny_bind (m := checkCount "sorted" 1 1 _) (wpAny_pure ?_)
  refine wpAny_bind (wpAny_collect_seq a (.inr rfl) ho hc hd (fun h' hk => ?_) (by rw [List.size_toArray, ← hlen, sizeLine_eq]; omega))
  have I1 : Inv X pins σ H { s with heap := h' } := I.kept (t' := s.toks) hk
  rw [show its.toArray.toList = its from rfl]
  refine wpAny_bind (wpAny_newList ?_ (by rw [← hlen, sizeLine_eq]; omega))
  have hoL : (h'.push (seqObj "list" its.toArray 0)).get? h'.objs.size = some (seqObj "list" its.toArray 0) := Heap.get?_push_size _ rfl
  show wpAny _ _ _ _ _ { s with heap := h'.push (seqObj "list" its.toArray 0) }
  refine wpAny_bind (wpAny_holding (wpAny_call_entry PyProof.Rows.slot_list_sort ⟨_, hoL, rfl⟩ PyProof.Rows.entry_list_sort
    (PyProof.Rows.list_sort_tree (s := { s with heap := h'.push (seqObj "list" its.toArray 0) }) hoL hi (by rw [← hlen]; exact h64) fun out ys g1 g2 g3 => ⟨_, rfl, ?_⟩) (PyProof.Rows.args_list_sort _)))
  obtain ⟨e', he'⟩ := PyProof.Rows.sortedHeap_at (vs := its) (out := out) hoL
  have hlen2 : (ys.map V.int).length ≤ sizeLine := by
    rw [List.length_map, g2.length_eq]
    exact Nat.le_trans (Nat.le_of_lt h64) (by decide)
  refine wpAny_pure ⟨_, rfl, .ref h'.objs.size, upd H h'.objs.size (.lst (ys.map V.int)), I1.laid (t' := s.toks) (fun b u e => ?_) (Nat.le_refl _)
    (show ObjOk X.prog X.w _ _ _ (.lst (ys.map V.int)) from ⟨hlen2, out.toList, e', vals_of_ints g1, by rw [Array.toArray_toList]; exact he'⟩), rfl, q ys _ g2 g3 (I1.hok.fresh (Nat.le_refl _))⟩
  have hb : b < h'.objs.size := Heap.lt_size e
  rw [PyProof.Rows.sortedHeap_old (Nat.ne_of_lt hb) (by rw [size_push']; exact Nat.lt_succ_of_lt hb)]
  exact Heap.get?_push_of_some _ e
def intsT : List PyData → Option (List Int)
  | [] => some []
  | .int k :: r => (intsT r).map fun l => k :: l
  | _ => none
theorem intsT_eq : ∀ {ds : List PyData} {ns : List Int}, intsT ds = some ns → ds = ns.map .int
  | [], _, e => by
    cases e
    rfl
  | d :: ds, ns, e => by
    cases d with
    | int k =>
      unfold intsT at e
      cases q : intsT ds with
      | none => rw [q] at e; cases e
      | some l =>
        rw [q] at e
        cases e
        rw [intsT_eq q]
        rfl
    | _ => cases e
def gSortTI : List PyData → Option PyData
  | [.tuple ds] => (intsT ds).bind fun ns => if ns.length < 64 then some (.list ((sortInt ns).map .int)) else none
  | _ => none
theorem r_sortTI {K : PySem.W.Frag} : RLD K (rSortTI K) gSortTI := fun b G H xs as d B Q ex bg is eg k => by
  unfold gSortTI at eg
  split at eg
  · rename_i ds
    cases q : intsT ds with
    | none => rw [q] at eg; cases eg
    | some ns =>
      rw [q, Option.bind_some] at eg
      have e := intsT_eq q
      subst e
      split at eg
      · rename_i hz
        cases eg
        cases is with
        | cons h r =>
          cases r
          cases h with
          | tup ha hd =>
            rw [IsL.of_ints hd] at ha
            refine ⟨_, ns, rfl, ex_t ex ha.sq, hz, fun ys p perm pw hp => ?_⟩
            rw [sortInt_one perm pw]
            exact k.lst ex bg hp (IsL.ints _)
      · cases eg
  · cases eg
def gSortedB : List PyData → Option PyData := gOr1 gSortedA gSortTI
theorem pd_sortedB {k : Nat} (room : Room k X.A) (hc : X.calm = true) (hm : X.mg "sorted" = none) (hg : Gl X "sorted") (ha : PDA X b [e] as) (he : starEach [e] X.env = (false, eval e X.env) :: starEach [] X.env := by rfl) : PD X b (.Call (.Name "sorted" p) [e] [] pos) (dCB gSortedB as) :=
  pd_or1 (pd_sortedA room hc hm hg ha he) (pd_cb call_sortedTI r_sortTI hg hm (by decide +kernel) ha (by decide) (by decide) he (by rfl))
end
end Dl

/-! DAJ: sorted(d) of a dict of texts, a new thing. -/
namespace Dl
open PySem L2 Evl PyProof.Rows
section
variable {X : Cx} {b : Addr} {pos p : Pos} {e : Expr} {as : List DAr}
def oSortKS : List PyData → Option OC
  | [.dict ds] => (strKs ds).bind fun ks => if ks.length < 64 then some (.l ((sortStr ks).map .str)) else none
  | _ => none
theorem ro_sortKS {K : PySem.W.Frag} : RLO K (fun xs H Q => ∃ (a : Addr) (kvs : List (Key × V)) (ks : List Str), xs = [.ref a] ∧ Rd H a (.dK kvs) ∧ kvs.map (·.1) = ks.map Sum.inr ∧ ks.length < 64 ∧ ∀ ys p, ys.Perm ks → sortedS ys = true → H p = none → Q (.ref p) (upd H p (.lst (ys.map V.str)))) oSortKS := fun b G H xs as d B Q ex bg is eg k => by
  unfold oSortKS at eg
  split at eg
  · rename_i ds
    cases q : strKs ds with
    | none => rw [q] at eg; cases eg
    | some ks =>
      rw [q, Option.bind_some] at eg
      split at eg
      · rename_i hz
        cases eg
        cases is with
        | cons h r =>
          cases r
          cases h with
          | dct ha hd =>
            refine ⟨_, _, ks, rfl, .inl (ex _ _ ha), hd.strKs q, hz, fun ys p perm pw hp => ?_⟩
            rw [sortStr_one perm pw]
            exact k.new ex bg hp ⟨_, rfl, IsL.strs _⟩
      · cases eg
  · cases eg
theorem pdn_sortKS (hc : X.calm = true) (hm : X.mg "sorted" = none) (hg : Gl X "sorted") (ha : PDA X b [e] as) (he : starEach [e] X.env = (false, eval e X.env) :: starEach [] X.env := by rfl) : PDN X b (.Call (.Name "sorted" p) [e] [] pos) (dCBO oSortKS as) :=
  pdo_cb (L2.call_sortedD hc) ro_sortKS hg hm (by decide +kernel) ha (by decide) (by decide) he (by rfl)
end
end Dl

/-! DAK: sum(xs, []) of a list of lists; xs.pop(i) as a statement. -/
namespace Dl
open PySem L2 Evl PyProof.Rows
section
variable {P : Program} {w : World} {A : Around} {E : Value → Shared → Prop}
abbrev LsAt (h : Heap) (a : Addr) (us : List Value) (n : Nat) : Prop := h.get? a = some { cls := .type "list", dict := none, data := .seq us.toArray n, slots := #[] }
theorem LsAt.isList {h : Heap} {a : Addr} {us : List Value} {n : Nat} (x : LsAt h a us n) : h.IsList a us.toArray := ⟨_, x, rfl, n, rfl⟩
theorem sum_lists_loop {R : Result → Shared → Prop} (hh : A.handled = none) {I S l : Addr} {inner : List (Addr × List Value × Nat)} (hIS : I ≠ S) (hl1 : l ≠ I) (hl2 : l ≠ S) (hin : ∀ p ∈ inner, p.1 ≠ I ∧ p.1 ≠ S)
    (tot : Nat) (htot : tot ≤ sizeLine) :
    ∀ (k i : Nat) (s : Shared) (t : Addr) (ws : List Value) (nt c : Nat), inner.length - i = k → i ≤ inner.length → s.heap.IsListIter I l i → s.heap.IsList l (inner.map fun p => Value.ref p.1).toArray → (∀ p ∈ inner, LsAt s.heap p.1 p.2.1 p.2.2) →
      LsAt s.heap t ws nt → t ≠ I → t ≠ S → LsAt s.heap S [.ref t] c → ws.length + ((inner.drop i).flatMap fun p => p.2.1).length ≤ tot → I < s.heap.objs.size → S < s.heap.objs.size →
      (∀ h' tk t' nt', (∀ b o, b ≠ I → b ≠ S → s.heap.get? b = some o → h'.get? b = some o) → LsAt h' t' (ws ++ (inner.drop i).flatMap fun p => p.2.1) nt' → ((k = 0 ∧ t' = t) ∨ s.heap.objs.size ≤ t') → R (.ok (.ret (.ref t'))) { s with heap := h', toks := tk }) →
      codeAny (model P w) A (.builtin "sum.loop" ⟨[.ref I, .ref S, rawInt 2, rawInt 0], []⟩) R s := by
  intro k
  induction k with
  | zero =>
    intro i s t ws nt c hk hi hit hl hins ht htI htS hS hlen hIlt hSlt hR
    have hi : i = inner.length := by omega
    refine codeAny_builtin F.entry_sum_loop ?_
    rw [Around.under_plainId F.plain_sum_loop _]
    show wpAny _ A.in1 (seqItems? (.ref S) >>= _) _ _ s
    refine wpAny_bind (wpAny_seqItems hS rfl ?_)
    show wpAny _ A.in1 (tryCatch (pyNext (.ref I)) _ >>= _) _ _ s
    refine wpAny_bind (wpAny_tryCatch (wpAny_pyNext_list_end hh hit hl (by simp; omega) fun h' ext => ?_))
    have e : (inner.drop i).flatMap (fun p => p.2.1) = [] := by rw [List.drop_of_length_le (by omega)]; rfl
    refine wpAny_pure (hR h' s.toks t nt (fun b o hb _ q => ext b o hb q) ?_ (.inl ⟨rfl, rfl⟩))
    rw [e, List.append_nil]
    exact ext t _ htI ht
  | succ k ih =>
    intro i s t ws nt c hk hi hit hl hins ht htI htS hS hlen hIlt hSlt hR
    have hlt : i < inner.length := by omega
    have hx : (inner.map fun p => Value.ref p.1).toArray[i]? = some (.ref inner[i].1) := by simp [hlt]
    have hdrop : inner.drop i = inner[i] :: inner.drop (i + 1) := (List.getElem_cons_drop hlt).symm
    have hm : inner[i] ∈ inner := List.getElem_mem hlt
    have hb := hins _ hm
    obtain ⟨hbI, hbS⟩ := hin _ hm
    refine codeAny_builtin F.entry_sum_loop ?_
    rw [Around.under_plainId F.plain_sum_loop _]
    show wpAny _ A.in1 (seqItems? (.ref S) >>= _) _ _ s
    refine wpAny_bind (wpAny_seqItems hS rfl ?_)
    show wpAny _ A.in1 (tryCatch (pyNext (.ref I)) _ >>= _) _ _ s
    refine wpAny_bind (wpAny_tryCatch (wpAny_pyNext_list_item hit hl hx fun h' hit' same => ?_))
    show wpAny _ A.in1 ((holding [Value.ref inner[i].1] (binaryOp .Add (.ref t) (.ref inner[i].1))).attempt >>= _) _ _ _
    have htlt := Heap.lt_size ht
    have ht' : LsAt h' t ws nt := (same.2 t htI).trans ht
    have hb' : LsAt h' inner[i].1 inner[i].2.1 inner[i].2.2 := (same.2 _ hbI).trans hb
    have hS' : LsAt h' S [.ref t] c := (same.2 S hIS.symm).trans hS
    rw [hdrop] at hlen hR
    rw [List.flatMap_cons] at hlen hR
    rw [List.length_append] at hlen
    refine wpAny_bind (wpAny_attempt (wpAny_holding (PySem.P.add_list ht' hb' ?_ (by rw [List.size_toArray, List.size_toArray]; omega))))
    have ea : ws.toArray ++ inner[i].2.1.toArray = (ws ++ inner[i].2.1).toArray := by simp
    rw [ea]
    show wpAny _ A.in1 (updateSeq S (fun _ => #[.ref h'.objs.size]) >>= _) _ _ _
    have hS1 : LsAt (h'.push (seqObj "list" (ws ++ inner[i].2.1).toArray 0)) S [.ref t] c := Heap.get?_push_of_some _ hS'
    refine wpAny_bind (wpAny_updateSeq hS1 rfl ?_)
    have hS2 := Heap.get?_update_self (Obj.mapSeq fun _ => #[Value.ref h'.objs.size]) hS1 rfl
    refine wpAny_bind (wpAny_letGo ?_)
    refine wpAny_bind (wpAny_updateSeq hS2 rfl (wpAny_pure ⟨plainId_quiet F.plain_sum_loop _, ?_⟩))
    have hS3 := Heap.get?_update_self (Obj.mapSeq fun _ => #[Value.ref h'.objs.size]) hS2 rfl
    have keep : ∀ b o, b ≠ S → h'.get? b = some o → (((h'.push (seqObj "list" (ws ++ inner[i].2.1).toArray 0)).update S (Obj.mapSeq fun _ => #[Value.ref h'.objs.size])).update S (Obj.mapSeq fun _ => #[Value.ref h'.objs.size])).get? b = some o := fun b o hb q =>
      (Heap.get?_update_other _ _ hb.symm).trans ((Heap.get?_update_other _ _ hb.symm).trans (Heap.get?_push_of_some _ q))
    have sz : (((h'.push (seqObj "list" (ws ++ inner[i].2.1).toArray 0)).update S (Obj.mapSeq fun _ => #[Value.ref h'.objs.size])).update S (Obj.mapSeq fun _ => #[Value.ref h'.objs.size])).objs.size = s.heap.objs.size + 1 := by
      rw [Heap.size_after_update, Heap.size_after_update, ← same.1]
      exact Array.size_push _
    have new : LsAt (((h'.push (seqObj "list" (ws ++ inner[i].2.1).toArray 0)).update S (Obj.mapSeq fun _ => #[Value.ref h'.objs.size])).update S (Obj.mapSeq fun _ => #[Value.ref h'.objs.size])) h'.objs.size (ws ++ inner[i].2.1) 0 :=
      (Heap.get?_update_other _ _ (by rw [same.1]; exact Nat.ne_of_lt hSlt)).trans ((Heap.get?_update_other _ _ (by rw [same.1]; exact Nat.ne_of_lt hSlt)).trans (Heap.get?_push_size _ rfl))
    refine ih (i + 1) _ h'.objs.size (ws ++ inner[i].2.1) 0 _ (by omega) hlt (hit'.at fun o e => keep _ o hIS e) (hl.at fun o e => keep _ o hl2 ((same.2 _ hl1).trans e)) (fun p hp => ?_) new (by rw [same.1]; exact Nat.ne_of_gt hIlt) (by rw [same.1]; exact Nat.ne_of_gt hSlt) hS3 (by rw [List.length_append]; omega) (by rw [sz]; exact Nat.lt_succ_of_lt hIlt) (by rw [sz]; exact Nat.lt_succ_of_lt hSlt) fun h2 tk t2 n2 e2 l2 w2 => ?_
    · obtain ⟨a1, a2⟩ := hin p hp
      exact keep _ _ a2 ((same.2 _ a1).trans (hins p hp))
    · rw [List.append_assoc] at l2
      refine hR h2 tk t2 n2 (fun b o hbI hbS q => e2 b o hbI hbS (keep b o hbS ((same.2 b hbI).trans q))) l2 (.inr ?_)
      rcases w2 with w2 | w2
      · rw [w2.2, same.1]
        exact Nat.le_refl _
      · rw [sz] at w2
        omega
theorem sum_lists {s : Shared} {l c : Addr} {cv : List Value} {cn : Nat} {inner : List (Addr × List Value × Nat)} {Q : Value → Shared → Prop} (hh : A.handled = none) (hl : s.heap.IsList l (inner.map fun p => Value.ref p.1).toArray)
    (hin : ∀ p ∈ inner, LsAt s.heap p.1 p.2.1 p.2.2) (hc : LsAt s.heap c cv cn) (htot : cv.length + (inner.flatMap fun p => p.2.1).length ≤ sizeLine)
    (told : ∀ (h' : Heap) (tk t' nt' : Nat), (∀ b o, s.heap.get? b = some o → h'.get? b = some o) → LsAt h' t' (cv ++ inner.flatMap fun p => p.2.1) nt' → ((inner.length = 0 ∧ t' = c) ∨ s.heap.objs.size ≤ t') → Q (.ref t') { s with heap := h', toks := tk }) :
    wpAny (model P w) A (call (.builtin "sum") [.ref l, .ref c]) Q E s := by
  have tyc : s.TypeIs (.ref c) "list" := hc.isList.typeIs
  refine call_function_tree F.kind_sum F.plain_sum F.entry_sum (sum_two _ _) ?_
  unfold Builtin.«sum»
  simp only [List.length_cons, List.length_nil]
  rw [if_neg (by decide)]
  refine wpAny_bind (wpAny_of_eq (show Builtin.Builtins.bindParams "sum" ["start"] 0 ⟨[Value.ref c], []⟩ = pure [some (Value.ref c)] from rfl) ?_)
  refine wpAny_bind (wpAny_pyIter_list hl ?_)
  have ty1 : ∀ o, Shared.TypeIs { s with heap := s.heap.push o } (.ref c) "list" := fun o => let ⟨u, q, z⟩ := tyc; ⟨u, Heap.get?_push_of_some _ q, z⟩
  dsimp only
  refine wpAny_bind (wpAny_pure ?_)
  simp only [List.forIn_cons, List.forIn_nil]
  refine wpAny_bind (wpAny_bind (wpAny_bind (wpAny_isInstance (T := "list") (b := false) (ty1 _) F.sub_list_str ?_)))
  simp only [Bool.false_eq_true, if_false]
  refine wpAny_pure (wpAny_bind (wpAny_bind (wpAny_isInstance (T := "list") (b := false) (ty1 _) F.sub_list_bytes ?_)))
  simp only [Bool.false_eq_true, if_false]
  refine wpAny_pure (wpAny_bind (wpAny_bind (wpAny_isInstance (T := "list") (b := false) (ty1 _) F.sub_list_bytearray ?_)))
  simp only [Bool.false_eq_true, if_false]
  refine wpAny_pure (wpAny_pure (wpAny_bind (wpAny_newObj_type ?_)))
  refine wpAny_pure ⟨plainId_quiet F.plain_sum_loop _, ?_⟩
  have keep2 : ∀ o1 o2 b u, s.heap.get? b = some u → ((s.heap.push o1).push o2).get? b = some u := fun o1 o2 b u q => Heap.get?_push_of_some _ (Heap.get?_push_of_some _ q)
  have ll : l < s.heap.objs.size := let ⟨_, q, _⟩ := hl; Heap.lt_size q
  have lc : c < s.heap.objs.size := Heap.lt_size hc
  have z1 : ∀ o : Obj, (s.heap.push o).objs.size = s.heap.objs.size + 1 := fun o => Array.size_push _
  have lt1 : ∀ {a : Addr} (o : Obj), a < s.heap.objs.size → a ≠ (s.heap.push o).objs.size := fun o h => by
    rw [z1]
    exact Nat.ne_of_lt (Nat.lt_succ_of_lt h)
  refine sum_lists_loop (P := P) (w := w) (A := A) hh (I := s.heap.objs.size) (S := (s.heap.push _).objs.size) (l := l) (inner := inner) (by rw [z1]; exact Nat.ne_of_lt (Nat.lt_succ_self _)) (Nat.ne_of_lt ll) (lt1 _ ll) (fun p hp => ⟨Nat.ne_of_lt (Heap.lt_size (hin p hp)), lt1 _ (Heap.lt_size (hin p hp))⟩) _ htot _ 0 _ c cv cn 0 rfl (Nat.zero_le _)
    ⟨_, Heap.get?_push_of_some _ (Heap.get?_push_size _ rfl), rfl, rfl⟩ (hl.at fun o q => keep2 _ _ _ _ q) (fun p hp => keep2 _ _ _ _ (hin p hp)) (keep2 _ _ _ _ hc) (Nat.ne_of_lt lc) (lt1 _ lc) (Heap.get?_push_size _ rfl) (Nat.le_refl _) ?_ ?_ fun h' tk t' nt' e2 l2 w2 => ?_
  · rw [Heap.size_push, z1]
    exact Nat.lt_succ_of_lt (Nat.lt_succ_self _)
  · exact Nat.lt_of_lt_of_eq (Nat.lt_succ_self _) (Heap.size_push _ _).symm
  · refine told h' tk t' nt' (fun b o q => e2 b o (Nat.ne_of_lt (Heap.lt_size q)) (lt1 _ (Heap.lt_size q)) (keep2 _ _ b o q)) l2 ?_
    rcases w2 with ⟨w2, w3⟩ | w2
    · exact .inl ⟨by simpa using w2, w3⟩
    · refine .inr (Nat.le_trans ?_ w2)
      show s.heap.objs.size ≤ ((s.heap.push _).push _).objs.size
      rw [Heap.size_push, z1]
      exact Nat.le_succ_of_le (Nat.le_succ _)
end
section
variable {X : Cx} {b : Addr} {pos p : Pos} {e e2 : Expr} {as : List DAr}
/-- each reference of vs is a list that is tracked -/
inductive LsL (H : Hp) : List V → List (List V) → Prop
  | nil : LsL H [] []
  | cons {a : Addr} {vs : List V} {xs : List V} {xss : List (List V)} : H a = some (.lst xs) → LsL H vs xss → LsL H (.ref a :: vs) (xs :: xss)
def rSumL : List V → Hp → VK → Prop := fun xs H Q => ∃ (l c : Addr) (vs ys : List V) (xss : List (List V)), xs = [.ref l, .ref c] ∧ H l = some (.lst vs) ∧ LsL H vs xss ∧ H c = some (.lst ys) ∧ ys.length + xss.flatten.length ≤ sizeLine ∧
  (xss = [] → Q (.ref c) H) ∧ (∀ p, H p = none → Q (.ref p) (upd H p (.lst (ys ++ xss.flatten))))
theorem lsl_at {pins : List (Addr × Obj)} {σ : L2.St} {H : Hp} {s : Shared} (I : Inv X pins σ H s) : ∀ {vs : List V} {xss : List (List V)} {its : List Value}, LsL H vs xss → Vals vs its →
    ∃ inner : List (Addr × List Value × Nat), its = (inner.map fun p => Value.ref p.1) ∧ (∀ p ∈ inner, LsAt s.heap p.1 p.2.1 p.2.2) ∧ Vals xss.flatten (inner.flatMap fun p => p.2.1) ∧ inner.length = xss.length
  | _, _, _, .nil, .nil => ⟨[], rfl, (fun _ h => nomatch h), .nil, rfl⟩
  | _, _, _, .cons h r, .cons x y => by
    cases x
    obtain ⟨z, js, n, rv, hl, e⟩ := I.lstM h
    obtain ⟨inner, i1, i2, i3, i4⟩ := lsl_at I r y
    refine ⟨(_, js, n) :: inner, by rw [i1]; rfl, fun p hp => ?_, ?_, by rw [List.length_cons, List.length_cons, i4]⟩
    · cases hp with
      | head => exact e
      | tail _ hp => exact i2 p hp
    · rw [List.flatten_cons, List.flatMap_cons]
      exact rv.append i3
theorem call_sumL (hc : X.calm = true) : CallR X (.builtin "sum") rSumL := by
  intro pins s σ H xs us Q I r told
  obtain ⟨l, c, vs, ys, xss, rfl, h1, h2, h3, hz, k0, k1⟩ := told
  have two : us = [.ref l, .ref c] := by
    cases r with
    | cons x1 x2 =>
      cases x2 with
      | cons y1 y2 =>
        cases y2
        cases x1
        cases y1
        rfl
  subst two
  obtain ⟨z1, its, n1, rv1, hl1, e1⟩ := I.lstM h1
  obtain ⟨z3, cv, n3, rv3, hl3, e3⟩ := I.lstM h3
  obtain ⟨inner, i1, i2, i3, i4⟩ := lsl_at I h2 rv1
  rw [i1] at e1
  refine sum_lists (P := X.prog) (I.ok.hd hc) ⟨_, e1, rfl, n1, rfl⟩ i2 e3 (by rw [← hl3, ← i3.length]; exact hz) fun h' tk t' nt' keep at' w => ?_
  rcases w with ⟨w1, w2⟩ | w
  · subst w2
    rw [i4] at w1
    exact ⟨.ref _, H, I.kept (t' := tk) keep, rfl, k0 (List.eq_nil_of_length_eq_zero w1)⟩
  · exact ⟨.ref t', _, I.laid (t' := tk) keep w (show ObjOk X.prog X.w _ _ _ (.lst (ys ++ xss.flatten)) from ⟨by rw [List.length_append]; exact hz, _, nt', rv3.append i3, at'⟩), rfl, k1 t' (I.hok.fresh w)⟩
def listsT : List PyData → Option (List (List PyData))
  | [] => some []
  | .list ds :: r => (listsT r).map fun l => ds :: l
  | _ => none
theorem lsl_of {K : PySem.W.Frag} {G H : Hp} (ex : Ex G H) : ∀ {vs : List V} {ds : List PyData} {dss : List (List PyData)}, IsL K G vs ds → listsT ds = some dss → ∃ xss, LsL H vs xss ∧ IsL K G xss.flatten dss.flatten ∧ xss.length = dss.length
  | _, _, _, .nil, e => by
    cases e
    exact ⟨[], .nil, .nil, rfl⟩
  | _, d :: ds, dss, .cons h r, e => by
    cases h with
    | lst ha hl =>
      unfold listsT at e
      cases q : listsT ds with
      | none => rw [q] at e; cases e
      | some m =>
        rw [q] at e
        cases e
        obtain ⟨xss, x1, x2, x3⟩ := lsl_of ex r q
        exact ⟨_ :: xss, .cons (ex _ _ ha) x1, by rw [List.flatten_cons, List.flatten_cons]; exact hl.append x2, by rw [List.length_cons, List.length_cons, x3]⟩
    | _ => cases e
def gSumL : List PyData → Option PyData
  | [.list as, .list ds] => (listsT as).bind fun dss => if ds.length + dss.flatten.length ≤ 100000 then some (.list (ds ++ dss.flatten)) else none
  | _ => none
theorem r_sumL {K : PySem.W.Frag} : RLD K rSumL gSumL := fun b G H xs as d B Q ex bg is eg k => by
  unfold gSumL at eg
  split at eg
  · cases is with
    | cons h1 r =>
      cases r with
      | cons h2 r =>
        cases r
        cases h1 with
        | lst a1 l1 =>
          cases h2 with
          | lst a2 l2 =>
            rename_i ds0 _ _ _ _ _
            cases q : listsT _ with
            | none => rw [q] at eg; cases eg
            | some dss =>
              rw [q, Option.bind_some] at eg
              split at eg
              · rename_i hz
                cases eg
                obtain ⟨xss, x1, x2, x3⟩ := lsl_of ex l1 q
                refine ⟨_, _, _, _, xss, rfl, ex _ _ a1, x1, ex _ _ a2, sz_of (by rw [l2.len, x2.len]; exact hz), fun e0 => ?_, fun p hp => k.lst ex bg hp (l2.append x2)⟩
                subst e0
                have e1 : dss = [] := List.eq_nil_of_length_eq_zero x3.symm
                subst e1
                rw [List.flatten_nil, List.append_nil] at k
                exact k.val ex bg (.lst a2 l2)
              · cases eg
  · cases eg
theorem pd_sumL (hc : X.calm = true) (hm : X.mg "sum" = none) (hg : Gl X "sum") (ha : PDA X b [e, e2] as) (he : starEach [e, e2] X.env = (false, eval e X.env) :: starEach [e2] X.env := by rfl) (hpl : (backTo pos (starEach [e2] X.env)).any (·.1) = false := by rfl) : PD X b (.Call (.Name "sum" p) [e, e2] [] pos) (dCB gSumL as) := pd_cb (call_sumL hc) r_sumL hg hm (by decide +kernel) ha (by decide) (by decide) he hpl
end
section
variable {X : Cx} {b : Addr} {pos : Pos} {e : Expr} {f : DE}
def dPopA (i : Nat) (f : DE) : DS := fun env B => (f env B).bind fun p => match env[i]?, p.1 with
  | some (.own (.l ds)), .int n => if ds.length < 100000 ∧ 0 ≤ n ∧ n < ds.length then some (.nx (env.set i (.own (.l (ds.eraseIdx n.toNat)))) p.2) else none
  | _, _ => none
theorem mt_popA : MtR X "list.pop" rPopAt := mt_popAt
theorem pds_popA (i : Nat) {x : Str} {px apos cpos : Pos} (h : PE X e (tD X.K b f) → PS X (.Expr (.Call (.Attribute (.Name x px) "pop" apos) [e] [] cpos) pos) (tDrop (tBM X.K "list" rPopAt (tVar i) (tCons (tD X.K b f) tNil)))) (h1 : PD X b e f) :
    PDS X b (.Expr (.Call (.Attribute (.Name x px) "pop" apos) [e] [] cpos) pos) (dPopA i f) := PS.imp (h h1) fun D σ H ⟨G0, H0, Gm, G, env, B, o, s, ev, k⟩ => by
  unfold dPopA at ev
  cases h1 : f env B with
  | none => rw [h1] at ev; cases ev
  | some p =>
    obtain ⟨d, B1⟩ := p
    rw [h1, Option.bind_some] at ev
    dsimp only at ev
    split at ev
    · rename_i ds n he
      split at ev
      · rename_i hz
        cases ev
        obtain ⟨p, xs, q1, q2, q3, q4, q5, _⟩ := own_at s.toSt he (Frm.refl (H := H))
        refine ⟨.ref p, q1, tyV_list q4, G, env, B, _, B1, s.toSt, h1, fun v G1 H1 fr ex bg is => ?_⟩
        cases is
        obtain ⟨p', xs', r1, _, _, r4, _, r6, r7⟩ := own_at s.toSt he fr
        rw [q1] at r1
        cases r1
        rw [q4] at r4
        cases r4
        have hlt : n.toNat < xs.length := by
          rw [q5.len]
          omega
        have big : ds.length < 100000 := hz.1
        refine ⟨p, xs, n, n.toNat, xs[n.toNat], rfl, rfl, r6, by omega, by omega, ?_, List.getElem?_eq_getElem hlt, ?_⟩
        · have g1 : ¬ n < 0 := by omega
          unfold seqIndex?
          rw [q5.len]
          simp only [if_neg g1]
          rw [if_pos]
          rw [Bool.and_eq_true]
          exact ⟨decide_eq_true hz.2.1, decide_eq_true hz.2.2⟩
        · have m := q5.mono fr.ex
          have e1 : IsL X.K G1 (xs.eraseIdx n.toNat) (ds.eraseIdx n.toNat) := by
            rw [List.eraseIdx_eq_take_drop_succ, List.eraseIdx_eq_take_drop_succ]
            exact (m.take n.toNat).append (m.drop (n.toNat + 1))
          exact k G1 σ _ ((s.step fr ex bg).own he q1 r7 q3 ⟨_, rfl, e1⟩)
      · cases ev
    · cases ev
end
section
variable {X : Cx} {b : Addr} {pos : Pos} {e1 e2 e3 : Expr} {f1 f2 f3 : DE} {tA ta tb : TT}
/-- a if t else b, as a test -/
def tIfT (t ta tb : TT) : TT := fun σ H Q => t σ H fun c H1 => if c = true then ta σ H1 Q else tb σ H1 Q
theorem pw_ifExp (hc : PT X e1 tA) (ha : PT X e2 ta) (hb : PT X e3 tb) : PW X (.IfExp e1 e2 e3 pos) (tIfT tA ta tb) := by
  refine ⟨fun wh pins s σ H Q I h => ?_⟩
  show wpAny _ _ (isTrue e1 X.env (eval e1 X.env) >>= fun c => if c = true then isTrue e2 X.env (eval e2 X.env) else isTrue e3 X.env (eval e3 X.env)) _ _ _
  refine wpAny_bind (wpAny_mono (hc.run pins s σ H _ I h) (fun c s1 ⟨H1, I1, q1⟩ => ?_) fun _ _ e => e)
  cases c with
  | true => exact ha.run pins s1 σ H1 Q I1 q1
  | false => exact hb.run pins s1 σ H1 Q I1 q1
theorem pdw_if (h1 : PDT X b e1 f1) (h2 : PDT X b e2 f2) (h3 : PDT X b e3 f3) : PDW X b (.IfExp e1 e2 e3 pos) (dIf f1 f2 f3) := PW.imp (pw_ifExp h1 h2 h3) fun σ H Q h => by
  have q := tDT_if (tt := fun _ _ _ => True) h (fun _ _ _ _ => trivial)
  obtain ⟨G, env, B, c, B', s, ev, k⟩ := q
  refine ⟨G, env, B, c, B', s, ev, fun G1 H1 fr ex bg => ?_⟩
  have z := k G1 H1 fr ex bg
  show (if c = true then tDT X.K b f2 σ H1 Q else tDT X.K b f3 σ H1 Q)
  cases c with
  | true =>
    rw [if_pos rfl] at z ⊢
    exact z
  | false =>
    rw [if_neg Bool.false_ne_true] at z ⊢
    exact z
end
end Dl

/-! DAL: x, bag[k] = e, f; while; max of a list of ints; d.update(..). -/
namespace Dl
open PySem L2 Evl PyProof.Rows
section
variable {X : Cx} {b : Addr} {pos : Pos} {e : Expr} {f : DE}
/-- x, bag[k] = e1, e2 -/
def dAsgB (i j : Nat) (k : Int) (f : DE) : DS := fun env B => (f env B).bind fun p => match p.1, env[j]? with
  | .tuple [d1, .int z], some .bag => (bgPut p.2 z k).map fun B' => .nx (env.set i (.sh d1)) B'
  | _, _ => none
theorem pds_asgB (i j : Nat) (k : Int) (hij : i ≠ j) {x y : Str} {px py pc ps pt : Pos} {jj kt}
    (h : PE X e (tD X.K b f) → PS X (.Assign [.Tuple [.Name x px, .Subscript (.Name y py) (.Constant (.int k) jj pc) ps] kt pt] e pos) (tAsg (tD X.K b f) (L2.gTup X.K 2 (L2.gCons (gName i) (L2.gCons (L2.gSub (tVar j) (tC (.int k)) rSetL) L2.gNil)))))
    (h1 : PD X b e f) : PDS X b (.Assign [.Tuple [.Name x px, .Subscript (.Name y py) (.Constant (.int k) jj pc) ps] kt pt] e pos) (dAsgB i j k f) := PS.imp (h h1) fun D σ H ⟨G0, H0, Gm, G, env, B, o, s, ev, kk⟩ => by
  unfold dAsgB at ev
  cases h1 : f env B with
  | none => rw [h1] at ev; cases ev
  | some p =>
    obtain ⟨d, B1⟩ := p
    rw [h1, Option.bind_some] at ev
    dsimp only at ev
    split at ev
    · rename_i d1 z he
      cases h2 : bgPut B1 z k with
      | none => rw [h2] at ev; cases ev
      | some B2 =>
        rw [h2] at ev
        cases ev
        refine ⟨G, env, B, _, B1, s.toSt, h1, fun v G1 H1 fr ex bg is => ?_⟩
        cases is with
        | @tup a xs _ ht hl =>
          cases hl with
          | @cons v1 vs1 _ _ i1 hl =>
            cases hl with
            | @cons v2 vs2 _ _ i2 hl =>
              cases hl
              cases i2
              have s1 := (s.step fr ex bg).put (i := i) i1
              obtain ⟨g1, c, g2, g3⟩ := bg
              obtain ⟨jn, q1, q2, q3⟩ := bg_put h2 c
              have he2 : (env.set i (.sh d1))[j]? = some .bag := by
                rw [List.getElem?_set_ne hij]
                exact he
              refine ⟨a, _, rfl, ex_t ex ht.sq, rfl, v1, _, rfl, .int z, [], rfl, .ref b, s1.toSt.sl j _ he2, b, _, k, jn, rfl, rfl, g2, q1, rfl, ?_⟩
              rw [q2]
              exact kk G1 _ _ (s1.bagged g2 (by rw [q3]; exact g3))
    · cases ev
end
/-! ### while -/
def whileGo (c : DE) (g : DS) : Nat → Env → Bg → Option Out
  | 0, _, _ => none
  | n + 1, env, B => (c env B).bind fun p => match p.1 with
    | .bool true => (g env p.2).bind fun o => match o with
      | .nx env' B' => whileGo c g n env' B'
      | .ct env' B' => whileGo c g n env' B'
      | .bk env' B' => some (.nx env' B')
      | .rt d B' => some (.rt d B')
      | .ro c B' => some (.ro c B')
    | .bool false => some (.nx env p.2)
    | _ => none
def dWhile (c : DE) (g : DS) : DS := fun env B => whileGo c g 1000 env B
section
variable {X : Cx} {b : Addr} {pos : Pos} {e : Expr} {f : DE} {g : DS}
theorem tDS_while {K : PySem.W.Frag} : ∀ D σ H, tDS K b (dWhile f g) D σ H → tWhile (tDT K b f) (tDS K b g) D σ H := fun D σ H ⟨G0, H0, Gm, G, env, B, o, s, ev, k⟩ => by
  refine ⟨fun m σ H => ∃ G2 env2 B2, SS K b G0 H0 Gm G2 σ H env2 B2 ∧ whileGo f g m env2 B2 = some o, ⟨1000, G, env, B, s, ev⟩, ?_⟩
  rintro m σ2 H2 ⟨G2, env2, B2, s2, hw⟩
  cases m with
  | zero => cases hw
  | succ n =>
    have hw : ((f env2 B2).bind fun p => match p.1 with
      | .bool true => (g env2 p.2).bind fun o => match o with
        | .nx env' B' => whileGo f g n env' B'
        | .ct env' B' => whileGo f g n env' B'
        | .bk env' B' => some (.nx env' B')
        | .rt d B' => some (.rt d B')
        | .ro c B' => some (.ro c B')
      | .bool false => some (.nx env2 p.2)
      | _ => none) = some o := hw
    cases h1 : f env2 B2 with
    | none => rw [h1] at hw; cases hw
    | some p =>
      obtain ⟨d, B3⟩ := p
      rw [h1, Option.bind_some] at hw
      dsimp only at hw
      cases d with
      | bool t =>
        refine ⟨G2, env2, B2, t, B3, s2.toSt, h1, fun G3 H3 fr ex bg => ?_⟩
        cases t with
        | false =>
          cases hw
          rw [if_neg Bool.false_ne_true]
          exact k G3 σ2 H3 (s2.step fr ex bg)
        | true =>
          rw [if_pos rfl]
          dsimp only at hw
          cases h4 : g env2 B3 with
          | none => rw [h4] at hw; cases hw
          | some o4 =>
            rw [h4, Option.bind_some] at hw
            refine ⟨fun σ H => ∃ G2 env2 B2, SS K b G0 H0 Gm G2 σ H env2 B2 ∧ whileGo f g n env2 B2 = some o, fun σ' H' hN => ⟨n, Nat.lt_succ_self _, hN⟩, G0, H0, Gm, G3, env2, B3, o4, s2.step fr ex bg, h4, ?_⟩
            cases o4 with
            | nx env5 B5 => exact fun G5 σ5 H5 s5 => ⟨G5, env5, B5, s5, hw⟩
            | ct env5 B5 => exact fun G5 σ5 H5 s5 => ⟨G5, env5, B5, s5, hw⟩
            | bk env5 B5 =>
              cases hw
              exact fun G5 σ5 H5 s5 => k G5 σ5 H5 s5
            | rt d5 B5 =>
              cases hw
              exact k
            | ro c5 B5 =>
              cases hw
              exact k
      | _ => cases hw
theorem pds_while {body : List Stmt} (hp : PassesOwn (model X.prog X.w) X.A X.env X.xe) (hc : PDT X b e f) (hb : PDSs X b body g) : PDS X b (.While e body [] pos) (dWhile f g) := PS.imp (ps_while hp hc hb) tDS_while
end
/-! ### max of a list -/
section
variable {X : Cx} {b : Addr} {pos p : Pos} {e : Expr} {as : List DAr}
def rMaxD (K : PySem.W.Frag) : List V → Hp → VK → Prop := fun xs H Q => ∃ (a : Addr) (q0 : V × PyData) (qs : List (V × PyData)), xs = [.ref a] ∧ H a = some (.lst ((q0 :: qs).map (·.1))) ∧ (∀ q ∈ q0 :: qs, Dp K H q.1 q.2) ∧ sortOk ((q0 :: qs).map (·.2)) = true ∧
  ∀ q ∈ q0 :: qs, q.2 = PySem.W.maxD q0.2 (qs.map (·.2)) → Q q.1 H
theorem call_maxD {k : Nat} (room : Room k X.A) (hc : X.calm = true) : CallR X (.builtin "max") (rMaxD X.K) := by
  intro pins s σ H xs us Q I r h
  obtain ⟨a, q0, qs, rfl, ha, hd, ok, q⟩ := h
  rw [Vals.ref1 r]
  obtain ⟨its, rv, hl, _⟩ := I.list (sq_of ha)
  unfold sortOk at ok
  simp only [Bool.and_eq_true, Bool.or_eq_true, List.all_eq_true, decide_eq_true_eq] at ok
  obtain ⟨⟨o1, o2⟩, o3⟩ := ok
  have un := room.un
  have ev := each_vals rv
  have er := each_reads I rv hd
  obtain ⟨as, ra⟩ := all_reads er
  have dep := depthAll_le (n := 60) fun d hd => (o3 d hd).2
  rw [List.map_cons] at ra o1 dep o2
  have ra' : ReadsAll s.heap its.toArray.toList (q0.2 :: qs.map (·.2)) as := ra
  refine PySem.W.max_list_data (I.ok.hd hc) hl.isList ra' ⟨o1, fun d hd e => ?_⟩ (by omega) fun i v h' tk bs hv hr keep => ?_
  · subst e
    rcases o2 with z | z
    · have z' := z _ hd
      cases z'
    · have z' := z _ hd
      cases z'
  · have hv : its[i]? = some v := by rw [← List.getElem?_toArray]; exact hv
    obtain ⟨q1, h1, h2⟩ := each_at ev hv
    obtain ⟨q2, h3, as2, h4⟩ := each_at er hv
    rw [h1] at h3
    cases h3
    have e := (PyProof.Rows.reads_det (fun b o e _ => keep b o e) h4 hr).1
    exact ⟨q1.1, H, I.kept (t' := tk) keep, h2, q q1 (List.mem_of_getElem? h1) e.symm⟩
def gMaxD : List PyData → Option PyData
  | [.list (d :: ds)] => if sortOk (d :: ds) then some (PySem.W.maxD d ds) else none
  | _ => none
theorem maxD_mem : ∀ (ds : List PyData) (d : PyData), PySem.W.maxD d ds ∈ d :: ds
  | [], d => List.mem_cons_self
  | e :: ds, d => by
    show PySem.W.maxD (if PySem.W.dataLt d e then e else d) ds ∈ d :: e :: ds
    have := maxD_mem ds (if PySem.W.dataLt d e then e else d)
    rcases List.mem_cons.mp this with h | h
    · rw [h]
      split <;> simp
    · exact List.mem_cons_of_mem _ (List.mem_cons_of_mem _ h)
theorem r_maxD {K : PySem.W.Frag} : RLD K (rMaxD K) gMaxD := fun b G H xs as d B Q ex bg is eg k => by
  unfold gMaxD at eg
  split at eg
  · rename_i d0 ds
    split at eg
    · rename_i hh
      cases eg
      cases is with
      | cons hd r =>
        cases r
        cases hd with
        | @lst a vs _ ha hl =>
          have len := hl.len
          have hl' := hl
          cases hl' with
          | @cons v0 vs _ _ h0 hr =>
            have len' := hr.len
            have lay : ∀ d ∈ d0 :: ds, d.canLay0 = true := fun d hd => by
              have z := hh
              unfold sortOk at z
              simp only [Bool.and_eq_true, List.all_eq_true] at z
              exact (z.2 d hd).1
            have zs : ((v0, d0) :: vs.zip ds).map (·.2) = d0 :: ds := by rw [List.map_cons, zip_snd len']
            refine ⟨a, (v0, d0), vs.zip ds, rfl, by rw [List.map_cons, zip_fst len']; exact ex _ _ ha, fun q hq => ?_, by rw [zs]; exact hh, fun q hq e => ?_⟩
            · have m : q.2 ∈ d0 :: ds := by
                rw [← zs]
                exact List.mem_map.mpr ⟨q, hq, rfl⟩
              exact (hl.zip q hq).dp ex (lay _ m)
            · have i := hl.zip q hq
              rw [e, zip_snd len'] at i
              exact k.val ex bg i
    · cases eg
  · cases eg
theorem pd_maxA {k : Nat} (room : Room k X.A) (hc : X.calm = true) (hm : X.mg "max" = none) (hg : Gl X "max") (ha : PDA X b [e] as) (he : starEach [e] X.env = (false, eval e X.env) :: starEach [] X.env := by rfl) : PD X b (.Call (.Name "max" p) [e] [] pos) (dCB gMaxD as) :=
  pd_cb (call_maxD room hc) r_maxD hg hm (by decide +kernel) ha (by decide) (by decide) he (by rfl)
end
/-! ### d.update(e) -/
section
variable {X : Cx}
theorem putK_len (kvs : List (Key × V)) (k : Key) (v : V) : (putK kvs k v).length ≤ kvs.length + 1 := by
  unfold putK
  split <;> simp
theorem mergeK_len : ∀ (more kvs : List (Key × V)), (mergeK kvs more).length ≤ kvs.length + more.length
  | [], kvs => Nat.le_refl _
  | q :: more, kvs => by
    have h := mergeK_len more (putK kvs q.1 q.2)
    have h2 := putK_len kvs q.1 q.2
    show (mergeK (putK kvs q.1 q.2) more).length ≤ _
    rw [List.length_cons]
    omega
def rUpd : V → List V → Hp → VK → Prop := fun x vs H Q => ∃ (a c : Addr) (kvs more : List (Key × V)), x = .ref a ∧ vs = [.ref c] ∧ a ≠ c ∧ H a = some (.dK kvs) ∧ H c = some (.dK more) ∧ kvs.length + more.length ≤ sizeLine ∧ Q .non (upd H a (.dK (mergeK kvs more)))
theorem mt_upd : MtR X "dict.update" rUpd := by
  intro pins s σ H x vs v us Q I rx rv h
  obtain ⟨a, c, kvs, more, rfl, rfl, hne, ha, hc, hz, q⟩ := h
  cases rx
  obtain ⟨u, rfl, ru⟩ := rv.one
  cases ru
  obtain ⟨z1, hd1, vs1, rel1, dd1⟩ := dk_of I.hok ha
  obtain ⟨z2, hd2, vs2, rel2, dd2⟩ := dk_of I.hok hc
  refine call_meetsIn PySem.F.slot_dict_update dd1.typeIs PySem.F.entry_dict_update (PySem.F.args_dict_update_2 _ _) (meets_dict_update (mixKind X.prog X.w) a c hne hd2) ⟨vs1, vs2, dd1, dd2, by rw [← rel1.length, ← rel2.length]; exact hz, fun h' dd' _ hs => ?_⟩
  have he : ∃ q, h'.get? a = some q := let ⟨q, _, _, hq, _⟩ := dd'; ⟨q, hq⟩
  exact ⟨.non, _, d_write (t' := s.toks) I (by rw [ha]; exact True.intro) hs he (dk_new (Nat.le_trans (mergeK_len more kvs) hz) hd1 (KV.merge rel2 rel1) dd'), rfl, q⟩
end
def undD : List (PyData × PyData) → Option (List (Key × PyData))
  | [] => some []
  | p :: r => (dKey p.1).bind fun k => (undD r).map fun l => (k, p.2) :: l
def mergeOO (kvs more : List (Key × PyData)) : List (Key × PyData) := more.foldl (fun acc q => putO acc q.1 q.2) kvs
theorem isD_un {K : PySem.W.Frag} {G : Hp} : ∀ {xs : List (Key × V)} {ds : List (PyData × PyData)} {more : List (Key × PyData)}, IsD K G xs ds → undD ds = some more → xs.map (·.1) = more.map (·.1) ∧ ds = kvD more
  | _, _, _, .nil, e => by
    cases e
    exact ⟨rfl, rfl⟩
  | _, _, _, @IsD.cons _ _ k v vs d ds h r, e => by
    have hk : dKey (keyD k) = some k := by cases k <;> rfl
    unfold undD at e
    dsimp only at e
    rw [hk, Option.bind_some] at e
    cases q : undD ds with
    | none => rw [q] at e; cases e
    | some l =>
      rw [q] at e
      cases e
      obtain ⟨i1, i2⟩ := isD_un r q
      exact ⟨by rw [List.map_cons, List.map_cons, i1], by rw [i2]; rfl⟩
theorem isD_merge {K : PySem.W.Frag} {G : Hp} : ∀ {ys : List (Key × V)} {more : List (Key × PyData)} {xs : List (Key × V)} {kvs : List (Key × PyData)}, ys.map (·.1) = more.map (·.1) → IsD K G ys (kvD more) → xs.map (·.1) = kvs.map (·.1) → IsD K G xs (kvD kvs) →
    (mergeK xs ys).map (·.1) = (mergeOO kvs more).map (·.1) ∧ IsD K G (mergeK xs ys) (kvD (mergeOO kvs more))
  | [], [], _, _, _, _, h1, h2 => ⟨h1, h2⟩
  | [], _ :: _, _, _, h, _, _, _ => by cases h
  | _ :: _, [], _, _, h, _, _, _ => by cases h
  | y :: ys, m :: more, xs, kvs, h, i, h1, h2 => by
    obtain ⟨k, v⟩ := y
    obtain ⟨k', d⟩ := m
    rw [List.map_cons, List.map_cons] at h
    injection h with e1 e2
    have e1 : k = k' := e1
    subst e1
    have i : IsD K G ((k, v) :: ys) ((keyD k, d) :: kvD more) := i
    cases i with
    | cons i1 i2 =>
      have z := isD_merge (xs := putK xs k v) (kvs := putO kvs k d) e2 i2 (keys_put h1) (by rw [← kvD_put]; exact h2.put i1)
      exact z
section
variable {X : Cx} {b : Addr} {pos : Pos} {e : Expr} {f : DE}
def dUpd (i : Nat) (f : DE) : DS := fun env B => (f env B).bind fun p => match env[i]?, p.1 with
  | some (.own (.d kvs)), .dict ds => (undD ds).bind fun more => if kvs.length + more.length ≤ 100000 then some (.nx (env.set i (.own (.d (mergeOO kvs more)))) p.2) else none
  | _, _ => none
theorem tyV_dict {K : PySem.W.Frag} {p : Addr} {xs : List (Key × V)} {H : Hp} (h : H p = some (.dK xs)) : tyV K "dict" (.ref p) H := .inr (.inr (.inl ⟨rfl, .inl ⟨_, h⟩⟩))
theorem pds_upd (i : Nat) {x : Str} {px apos cpos : Pos} (h : PE X e (tD X.K b f) → PS X (.Expr (.Call (.Attribute (.Name x px) "update" apos) [e] [] cpos) pos) (tDrop (tBM X.K "dict" rUpd (tVar i) (tCons (tD X.K b f) tNil)))) (h1 : PD X b e f) :
    PDS X b (.Expr (.Call (.Attribute (.Name x px) "update" apos) [e] [] cpos) pos) (dUpd i f) := PS.imp (h h1) fun D σ H ⟨G0, H0, Gm, G, env, B, o, s, ev, k⟩ => by
  unfold dUpd at ev
  cases h1 : f env B with
  | none => rw [h1] at ev; cases ev
  | some p =>
    obtain ⟨d, B1⟩ := p
    rw [h1, Option.bind_some] at ev
    dsimp only at ev
    split at ev
    · rename_i kvs ds he
      cases h2 : undD ds with
      | none => rw [h2] at ev; cases ev
      | some more =>
        rw [h2, Option.bind_some] at ev
        split at ev
        · rename_i hz
          cases ev
          obtain ⟨p, o, r1, r2, r3, r4, xs, rfl, r5, r6⟩ := s.sl i _ he
          refine ⟨.ref p, r1, tyV_dict r4, G, env, B, _, B1, s.toSt, h1, fun v G1 H1 fr ex bg is => ?_⟩
          have hp2 := fr.keep p _ r4 r3
          have gp2 := fr.hide p _ r4 r2
          cases is with
          | @dct a ys _ ha hl =>
            obtain ⟨u1, u2⟩ := isD_un hl h2
            rw [u2] at hl
            have l1 : xs.length = kvs.length := by
              have z := congrArg List.length r5
              rw [List.length_map, List.length_map] at z
              exact z
            have l2 : ys.length = more.length := by
              have z := congrArg List.length u1
              rw [List.length_map, List.length_map] at z
              exact z
            obtain ⟨m1, m2⟩ := isD_merge u1 hl r5 (r6.mono fr.ex)
            have ne : p ≠ a := fun z => by
              rw [z, ha] at gp2
              cases gp2
            exact ⟨p, a, xs, ys, rfl, rfl, ne, hp2, ex _ _ ha, sz_of (by omega), k G1 σ _ ((s.step fr ex bg).own he r1 gp2 r3 ⟨_, rfl, m1, m2⟩)⟩
        · cases ev
    · cases ev
end
/-! ### {k: v, ..} -/
def pairsGo : List (DE × DE) → Env → Bg → Option (List (Key × PyData) × Bg)
  | [], _, B => some ([], B)
  | (fk, fv) :: r, env, B => (fk env B).bind fun p => (fv env p.2).bind fun q => (dKey p.1).bind fun k => (pairsGo r env q.2).map fun t => ((k, q.1) :: t.1, t.2)
def dDic (ps : List (DE × DE)) : DEO := fun env B => (pairsGo ps env B).map fun p => (.d (mergeOO [] p.1), p.2)
section
variable {K : PySem.W.Frag} {b D : Addr} {G0 H0 G H : Hp} {B : Bg} {acc : List (Key × V)} {kvs : List (Key × PyData)}
theorem DcInv.all (x : DcInv K b D G0 H0 G H B acc kvs) (hD : D ≠ b) (h0 : H0 D = none) {acc' : List (Key × V)} {kvs' : List (Key × PyData)} (ks : acc'.map (·.1) = kvs'.map (·.1)) (is : IsD K G acc' (kvD kvs')) : DcInv K b D G0 H0 G (upd H D (.dK acc')) B acc' kvs' where
  frm := ⟨x.frm.ex, fun a o h n => by rw [upd_ne (ne_of_none h h0)]; exact x.frm.keep a o h n, x.frm.hide, fun c h => (x.frm.cell c h).ne hD⟩
  ex := fun a o h => by
    rw [upd_ne (ne_of_none h x.no)]
    exact x.ex a o h
  no := x.no
  bag := by
    obtain ⟨h1, c, h2, h3⟩ := x.bag
    exact ⟨h1, c, by rw [upd_ne hD.symm]; exact h2, h3⟩
  at' := upd_same
  ks := ks
  is := is
theorem pairs_walk {σ : L2.St} {env : Env} {B' : Bg} : ∀ (ps : List (DE × DE)) {G H : Hp} {B : Bg} {kvs : List (Key × PyData)} {Q : List (V × V) → Hp → Prop}, St K b G σ H env B → pairsGo ps env B = some (kvs, B') →
    (∀ (G' H' : Hp) (ys : List (Key × V)), Frm b G H G' H' → Ex G' H' → BagAt b G' H' B' → ys.map (·.1) = kvs.map (·.1) → IsD K G' ys (kvD kvs) → Q (ys.map fun kv => (kV kv.1, kv.2)) H') →
    tPairs (ps.map fun p => (tD K b p.1, tD K b p.2)) σ H Q
  | [], G, H, B, kvs, Q, s, e, k => by
    cases e
    exact k G H [] Frm.refl s.ex s.bag rfl .nil
  | (fk, fv) :: ps, G, H, B, kvs, Q, s, e, k => by
    unfold pairsGo at e
    cases h1 : fk env B with
    | none => rw [h1] at e; cases e
    | some p =>
      obtain ⟨d1, B1⟩ := p
      rw [h1, Option.bind_some] at e
      dsimp only at e
      cases h2 : fv env B1 with
      | none => rw [h2] at e; cases e
      | some q =>
        obtain ⟨d2, B2⟩ := q
        rw [h2, Option.bind_some] at e
        dsimp only at e
        cases h3 : dKey d1 with
        | none => rw [h3] at e; cases e
        | some ky =>
          rw [h3, Option.bind_some] at e
          cases h4 : pairsGo ps env B2 with
          | none => rw [h4] at e; cases e
          | some r =>
            obtain ⟨more, B3⟩ := r
            rw [h4] at e
            cases e
            have ed := dKey_is h3
            subst ed
            refine ⟨G, env, B, _, B1, s, h1, fun v G1 H1 fr1 ex1 bg1 is1 => ⟨G1, env, B1, d2, B2, s.step fr1 ex1 bg1, h2, fun w G2 H2 fr2 ex2 bg2 is2 => ?_⟩⟩
            refine pairs_walk ps ((s.step fr1 ex1 bg1).step fr2 ex2 bg2) h4 fun G3 H3 ys fr3 ex3 bg3 ks is3 => ?_
            have z := k G3 H3 ((ky, w) :: ys) (fr1.trans (fr2.trans fr3 bg3.1) bg3.1) ex3 bg3 (by rw [List.map_cons, List.map_cons, ks]) (.cons (is2.mono fr3.ex) is3)
            rw [is1.key]
            exact z
end
section
variable {X : Cx} {b : Addr} {pos : Pos}
theorem pdn_dic {keys : List (Option Expr)} {values : List Expr} {ps : List (DE × DE)} (h : PPs X pos keys values (ps.map fun p => (tD X.K b p.1, tD X.K b p.2))) (hall : keys.all (·.isSome) = true) (hl : keys.length = values.length) (h0 : keys ≠ []) (h15 : keys.length ≤ 15) (hp : ps.length ≤ 15) :
    PDN X b (.Dict keys values pos) (dDic ps) := PE.imp (pe_disp h hall hl h0 h15) fun σ H Q ⟨G, env, B, c, B', s, ev, k⟩ => by
  unfold dDic at ev
  cases h1 : pairsGo ps env B with
  | none => rw [h1] at ev; cases ev
  | some q =>
    obtain ⟨kvs, B2⟩ := q
    rw [h1] at ev
    cases ev
    intro D hDn
    have hDb : D ≠ b := s.bag.ne hDn
    have gD : G D = none := ex_none s.ex hDn
    have L0 : DcInv X.K b D G H G (upd H D (.dK [])) B [] [] := ⟨⟨Ex.refl _, fun a o h _ => by rw [upd_ne (ne_of_none h hDn)]; exact h, fun _ _ _ n => n, fun c h => h.new hDn⟩, s.ex.trans (Ex.new hDn), gD, by
      obtain ⟨h1, c, h2, h3⟩ := s.bag
      exact ⟨h1, c, by rw [upd_ne hDb.symm]; exact h2, h3⟩, upd_same, rfl, .nil⟩
    have s1 : St X.K b G σ (upd H D (.dK [])) env B := s.step L0.frm L0.ex L0.bag
    have len : ∀ (ps : List (DE × DE)) (B : Bg) (kvs : List (Key × PyData)) (B2 : Bg), pairsGo ps env B = some (kvs, B2) → kvs.length = ps.length := by
      intro ps
      induction ps with
      | nil =>
        intro B kvs B2 e
        cases e
        rfl
      | cons p ps ih =>
        intro B kvs B2 e
        obtain ⟨fk, fv⟩ := p
        unfold pairsGo at e
        cases q1 : fk env B with
        | none => rw [q1] at e; cases e
        | some p1 =>
          rw [q1, Option.bind_some] at e
          cases q2 : fv env p1.2 with
          | none => rw [q2] at e; cases e
          | some p2 =>
            rw [q2, Option.bind_some] at e
            cases q3 : dKey p1.1 with
            | none => rw [q3] at e; cases e
            | some ky =>
              rw [q3, Option.bind_some] at e
              cases q4 : pairsGo ps env p2.2 with
              | none => rw [q4] at e; cases e
              | some r =>
                rw [q4] at e
                cases e
                rw [List.length_cons, List.length_cons, ih _ _ _ q4]
    refine pairs_walk ps s1 h1 fun G' H' ys fr ex bg ks is => ?_
    have L1 := L0.step hDb fr ex bg
    obtain ⟨m1, m2⟩ := isD_merge (xs := []) (kvs := []) ks is rfl .nil
    have L2 := L1.all hDb hDn m1 m2
    have yl : ys.length = kvs.length := by
      have z := congrArg List.length ks
      rw [List.length_map, List.length_map] at z
      exact z
    have kl := len ps B kvs B2 h1
    exact ⟨L1.at', ys, rfl, by omega, k D _ G' _ L2.frm L2.ex L2.bag hDn L2.at' L2.no hDb ⟨_, rfl, L2.ks, L2.is⟩⟩
end
/-! ### x or y as a value, by truth -/
def truthD : PyData → Option Bool
  | .none => some false
  | .bool c => some c
  | .int i => some (i != 0)
  | .str y => if y.length ≤ 100000 then some ((y.length : Int) != 0) else none
  | .list ds => some (!ds.isEmpty)
  | .tuple ds => some (!ds.isEmpty)
  | _ => none
theorem truV_is {K : PySem.W.Frag} {G H : Hp} {v : V} {d : PyData} {t : Bool} (ex : Ex G H) (is : Is K G v d) (e : truthD d = some t) : TruV K v H t := by
  have emp : ∀ {xs : List V} {ds : List PyData}, IsL K G xs ds → (!xs.isEmpty) = !ds.isEmpty := fun {xs ds} h => by cases h <;> rfl
  cases is with
  | non => cases e; rfl
  | bl c => cases e; rfl
  | int i => cases e; rfl
  | str y =>
    have e : (if y.length ≤ 100000 then some ((y.length : Int) != 0) else none) = some t := e
    by_cases h : y.length ≤ 100000
    · rw [if_pos h] at e
      cases e
      exact ⟨sz_of h, rfl⟩
    · rw [if_neg h] at e
      cases e
  | lst h l =>
    cases e
    exact .inl ⟨_, sq_of (ex _ _ h), (emp l).symm⟩
  | tup h l =>
    cases e
    exact .inr (.inl ⟨_, ex_t ex h.sq, (emp l).symm⟩)
  | dct h l => cases e
section
variable {X : Cx} {b : Addr} {pos : Pos} {e1 e2 : Expr} {f1 f2 : DE}
def dOrA (f1 f2 : DE) : DE := fun env B => (f1 env B).bind fun p => match truthD p.1 with
  | some true => some p
  | some false => f2 env p.2
  | none => none
theorem pd_orA {es : List Expr} (h1 : PD X b e1 f1) (h2 : PD X b (.BoolOp .Or (e2 :: es) pos) f2) : PD X b (.BoolOp .Or (e1 :: e2 :: es) pos) (dOrA f1 f2) := PE.imp (pe_orT h1 h2) fun σ H Q ⟨G, env, B, d, B', s, ev, k⟩ => by
  unfold dOrA at ev
  cases q1 : f1 env B with
  | none => rw [q1] at ev; cases ev
  | some p =>
    obtain ⟨d1, B1⟩ := p
    rw [q1, Option.bind_some] at ev
    dsimp only at ev
    refine ⟨G, env, B, d1, B1, s, q1, fun v G1 H1 fr ex bg is => ?_⟩
    cases q2 : truthD d1 with
    | none => rw [q2] at ev; cases ev
    | some t =>
      rw [q2] at ev
      refine ⟨t, truV_is ex is q2, ?_⟩
      cases t with
      | true =>
        cases ev
        rw [if_pos rfl]
        exact k _ _ _ fr ex bg is
      | false =>
        rw [if_neg Bool.false_ne_true]
        exact ⟨G1, env, B1, d, B', s.step fr ex bg, ev, k.go fr⟩
end
/-! ### x, y = e, f where a name is a cell: a pair is made, and forgotten -/
section
variable {X : Cx} {b : Addr} {pos : Pos} {e1 e2 : Expr}
theorem SS.laid {K : PySem.W.Frag} {b : Addr} {G0 H0 Gm G H : Hp} {σ : L2.St} {env : Env} {B : Bg} (s : SS K b G0 H0 Gm G σ H env B) {p : Addr} {o : HO} (hp : H p = none) : SS K b G0 H0 Gm G σ (upd H p o) env B :=
  s.step ⟨Ex.refl _, fun a o h _ => by rw [upd_ne (ne_of_none h hp)]; exact h, fun _ _ _ n => n, fun c h => h.new hp⟩ (s.ex.trans (Ex.new hp)) (by
    have hpb : p ≠ b := s.bag.ne hp
    obtain ⟨h1, c, h2, h3⟩ := s.bag
    exact ⟨h1, c, by rw [upd_ne hpb.symm]; exact h2, h3⟩)
theorem pds_parC (i j : Nat) {x y : Str} {px py pt : Pos} {kt k2 pt2} {f1 f2 : DX}
    (h : PE X (.Tuple [e1, e2] k2 pt2) (tTupN (tCons (tDX X.K b f1) (tCons (tDX X.K b f2) tNil))) → PS X (.Assign [.Tuple [.Name x px, .Name y py] kt pt] (.Tuple [e1, e2] k2 pt2) pos) (tAsg (tTupN (tCons (tDX X.K b f1) (tCons (tDX X.K b f2) tNil))) (L2.gTup X.K 2 (L2.gCons (gName i) (L2.gCons (gName j) L2.gNil)))))
    (h1 : PDX X b e1 f1) (h2 : PDX X b e2 f2) (hs : starEach [e1, e2] X.env = (false, eval e1 X.env) :: starEach [e2] X.env := by rfl) (hs2 : starEach [e2] X.env = (false, eval e2 X.env) :: starEach [] X.env := by rfl) :
    PDS X b (.Assign [.Tuple [.Name x px, .Name y py] kt pt] (.Tuple [e1, e2] k2 pt2) pos) (dParX i j f1 f2) := PS.imp (h (pe_tupN (pa_cons h1 (pa_cons h2 pa_nil hs2) hs))) fun D σ H ⟨G0, H0, Gm, G, env, B, o, s, ev, k⟩ => by
  unfold dParX at ev
  cases e1 : f1 env B with
  | none => rw [e1] at ev; cases ev
  | some p =>
    obtain ⟨a, B1⟩ := p
    rw [e1, Option.bind_some] at ev
    dsimp only at ev
    cases e2 : f2 env B1 with
    | none => rw [e2] at ev; cases ev
    | some q =>
      obtain ⟨a2, B2⟩ := q
      rw [e2, Option.bind_some] at ev
      cases ev
      refine ⟨G, env, B, a, B1, s.toSt, e1, fun v G1 H1 fr1 ex1 bg1 v1 n1 => ?_⟩
      refine ⟨G1, env, B1, a2, B2, s.toSt.step fr1 ex1 bg1, e2, fun w G2 H2 fr2 ex2 bg2 v2 n2 => ?_⟩
      have s1 := s.step fr1 ex1 bg1
      have s2 := s1.step fr2 ex2 bg2
      refine ⟨by show 2 ≤ sizeLine; decide, fun p ob hp hd => ⟨p, [v, w], rfl, .inl (.inr ⟨ob, upd_same⟩), rfl, v, [w], rfl, w, [], rfl, rfl, ?_⟩⟩
      exact k G2 _ _ (((s2.putX (v1.step fr2) (FrAt.back s.frm v1 n1) (s.away n1)).putX v2 (FrAt.back s1.frm v2 n2) (Away.set (s1.away n2) v1 n2)).laid hp)
end
end Dl

namespace Dl
open PySem L2 Evl PyProof.Rows
/-! EX: loops and comprehensions by steps; what operators give on data; what repr and == want. -/
inductive Al2 {α β : Type} (P : α → β → Prop) : List α → List β → Prop
  | nil : Al2 P [] []
  | cons {a : α} {b : β} {as : List α} {bs : List β} : P a b → Al2 P as bs → Al2 P (a :: as) (b :: bs)
section loops
variable {α σ : Type} {tg : DG} {g : DS} {c f : DE} {enc : α → PyData} {env : Env} {B : Bg}
theorem forGo_rel (R : σ → Env → Prop) (step : σ → α → σ) : ∀ (xs : List α) (s : σ) (env : Env), R s env →
    (∀ s env x, x ∈ xs → R s env → ∃ e1 env', tg (enc x) env = some e1 ∧ g e1 B = some (.nx env' B) ∧ R (step s x) env') →
    ∃ env', forGo tg g (xs.map enc) env B = some (.nx env' B) ∧ R (xs.foldl step s) env'
  | [], s, env, r, _ => ⟨env, rfl, r⟩
  | x :: xs, s, env, r, h => by
    obtain ⟨e1, env1, h1, h2, r1⟩ := h s env x List.mem_cons_self r
    obtain ⟨env', h3, r'⟩ := forGo_rel R step xs (step s x) env1 r1 fun s env y hy r => h s env y (List.mem_cons_of_mem _ hy) r
    refine ⟨env', ?_, r'⟩
    show ((tg (enc x) env).bind _) = _
    rw [h1, Option.bind_some, h2]
    exact h3
theorem forGo_pre (all : List α) (R : List α → Env → Prop) (h : ∀ pre x post env, all = pre ++ x :: post → R pre env → ∃ e1 env', tg (enc x) env = some e1 ∧ g e1 B = some (.nx env' B) ∧ R (pre ++ [x]) env') :
    ∀ (post pre : List α) (env : Env), all = pre ++ post → R pre env → ∃ env', forGo tg g (post.map enc) env B = some (.nx env' B) ∧ R all env'
  | [], pre, env, e, r => ⟨env, rfl, by rw [e, List.append_nil]; exact r⟩
  | x :: post, pre, env, e, r => by
    obtain ⟨e1, env1, h1, h2, r1⟩ := h pre x post env e r
    obtain ⟨env', h3, r'⟩ := forGo_pre all R h post (pre ++ [x]) env1 (by rw [e, List.append_assoc]; rfl) r1
    refine ⟨env', ?_, r'⟩
    show ((tg (enc x) env).bind _) = _
    rw [h1, Option.bind_some, h2]
    exact h3
theorem forGo_bag (R : Nat → Env → Prop) : ∀ (ds : List PyData) (k : Nat) (env : Env) (B : Bg), R k env → BagOk B →
    (∀ k d env B, d ∈ ds → R k env → BagOk B → ∃ e1 env' B', tg d env = some e1 ∧ g e1 B = some (.nx env' B') ∧ R (k + 1) env' ∧ BagOk B') →
    ∃ env' B', forGo tg g ds env B = some (.nx env' B') ∧ R (k + ds.length) env' ∧ BagOk B'
  | [], k, env, B, r, ok, _ => ⟨env, B, rfl, r, ok⟩
  | d :: ds, k, env, B, r, ok, h => by
    obtain ⟨e1, env1, B1, h1, h2, r1, ok1⟩ := h k d env B List.mem_cons_self r ok
    obtain ⟨env', B', h3, r', ok'⟩ := forGo_bag R ds (k + 1) env1 B1 r1 ok1 fun k e env B he r ok => h k e env B (List.mem_cons_of_mem _ he) r ok
    refine ⟨env', B', ?_, by rw [List.length_cons, show k + (ds.length + 1) = k + 1 + ds.length by omega]; exact r', ok'⟩
    show ((tg d env).bind _) = _
    rw [h1, Option.bind_some, h2]
    exact h3
theorem lcGo_map (p : α → Bool) (h : α → PyData) : ∀ xs : List α, (∀ x ∈ xs, ∃ e1, tg (enc x) env = some e1 ∧ c e1 B = some (.bool (p x), B) ∧ (p x = true → f e1 B = some (h x, B))) →
    lcGo tg c f env (xs.map enc) B = some ((xs.filter p).map h, B)
  | [], _ => rfl
  | x :: xs, k => by
    obtain ⟨e1, h1, h2, h3⟩ := k x List.mem_cons_self
    have ih := lcGo_map p h xs fun y hy => k y (List.mem_cons_of_mem _ hy)
    show ((tg (enc x) env).bind _) = _
    rw [h1, Option.bind_some, h2, Option.bind_some]
    by_cases hp : p x = true
    · rw [hp]
      show ((f e1 B).bind _) = _
      rw [h3 hp, Option.bind_some, ih, List.filter_cons_of_pos hp]
      rfl
    · rw [Bool.not_eq_true] at hp
      rw [hp, List.filter_cons_of_neg (by rw [hp]; exact Bool.false_ne_true)]
      exact ih
theorem lcGo_all (h : α → PyData) (xs : List α) (k : ∀ x ∈ xs, ∃ e1, tg (enc x) env = some e1 ∧ f e1 B = some (h x, B)) : lcGo tg dYes f env (xs.map enc) B = some (xs.map h, B) := by
  have z := lcGo_map (c := dYes) (fun _ => true) h xs fun x hx => by
    obtain ⟨e1, h1, h2⟩ := k x hx
    exact ⟨e1, h1, rfl, fun _ => h2⟩
  rw [z, List.filter_eq_self.mpr fun _ _ => rfl]
theorem lcGo_all_c (h : α → PyData) (xs : List α) (k : ∀ x ∈ xs, ∃ e1, tg (enc x) env = some e1 ∧ c e1 B = some (.bool true, B) ∧ f e1 B = some (h x, B)) : lcGo tg c f env (xs.map enc) B = some (xs.map h, B) := by
  have z := lcGo_map (c := c) (f := f) (tg := tg) (env := env) (enc := enc) (B := B) (fun _ => true) h xs fun x hx => by
    obtain ⟨e1, h1, h2, h3⟩ := k x hx
    exact ⟨e1, h1, h2, fun _ => h3⟩
  rw [z, List.filter_eq_self.mpr fun _ _ => rfl]
/-- with draws: what each gives, and which are kept -/
theorem lcGo_bag (P : PyData → PyData → Prop) : ∀ (ds : List PyData) (B : Bg), BagOk B →
    (∀ d ∈ ds, ∀ B, BagOk B → ∃ e1 t B1, tg d env = some e1 ∧ c e1 B = some (.bool t, B1) ∧ BagOk B1 ∧ (t = true → ∃ r B2, f e1 B1 = some (r, B2) ∧ BagOk B2 ∧ P d r)) →
    ∃ ks rs B', lcGo tg c f env ds B = some (rs, B') ∧ BagOk B' ∧ ks.Sublist ds ∧ Al2 P ks rs
  | [], B, ok, _ => ⟨[], [], B, rfl, ok, .slnil, .nil⟩
  | d :: ds, B, ok, h => by
    obtain ⟨e1, t, B1, h1, h2, ok1, h3⟩ := h d List.mem_cons_self B ok
    cases t with
    | false =>
      obtain ⟨ks, rs, B', h4, ok', sl, fa⟩ := lcGo_bag P ds B1 ok1 fun e he B ok => h e (List.mem_cons_of_mem _ he) B ok
      refine ⟨ks, rs, B', ?_, ok', sl.cons d, fa⟩
      show ((tg d env).bind _) = _
      rw [h1, Option.bind_some, h2]
      exact h4
    | true =>
      obtain ⟨r, B2, h5, ok2, pr⟩ := h3 rfl
      obtain ⟨ks, rs, B', h4, ok', sl, fa⟩ := lcGo_bag P ds B2 ok2 fun e he B ok => h e (List.mem_cons_of_mem _ he) B ok
      refine ⟨d :: ks, r :: rs, B', ?_, ok', sl.cons₂ d, .cons pr fa⟩
      show ((tg d env).bind _) = _
      rw [h1, Option.bind_some, h2]
      show ((f e1 B1).bind _) = _
      rw [h5, Option.bind_some, h4]
      rfl
end loops

/-- goes on, the bag as it was -/
def Nx (B : Bg) (P : Env → Prop) (o : Option Out) : Prop := ∃ env', o = some (.nx env' B) ∧ P env'
theorem Nx.mk {B : Bg} {P : Env → Prop} {env : Env} (h : P env) : Nx B P (some (.nx env B)) := ⟨env, rfl, h⟩
section loopsB
variable {α σ β : Type} {tg : DG} {g : DS} {enc : α → PyData} {env : Env} {B : Bg} {K : Out → Option β} {z : Option β}
theorem forB_rel (R : σ → Env → Prop) (step : σ → α → σ) (s : σ) {xs : List α} (r0 : R s env)
    (h : ∀ s env x, x ∈ xs → R s env → ∃ e1, tg (enc x) env = some e1 ∧ Nx B (R (step s x)) (g e1 B))
    (k : ∀ env', R (xs.foldl step s) env' → K (.nx env' B) = z) : (forGo tg g (xs.map enc) env B).bind K = z := by
  obtain ⟨env', run, r⟩ := forGo_rel R step xs s env r0 fun s env x hx r => by
    obtain ⟨e1, h1, env', h2, h3⟩ := h s env x hx r
    exact ⟨e1, env', h1, h2, h3⟩
  rw [run]
  exact k env' r
theorem forB_pre (R : List α → Env → Prop) {all : List α} (r0 : R [] env)
    (h : ∀ pre x post env, all = pre ++ x :: post → R pre env → ∃ e1, tg (enc x) env = some e1 ∧ Nx B (R (pre ++ [x])) (g e1 B))
    (k : ∀ env', R all env' → K (.nx env' B) = z) : (forGo tg g (all.map enc) env B).bind K = z := by
  obtain ⟨env', run, r⟩ := forGo_pre all R (fun pre x post env e r => by
    obtain ⟨e1, h1, env', h2, h3⟩ := h pre x post env e r
    exact ⟨e1, env', h1, h2, h3⟩) all [] env rfl r0
  rw [run]
  exact k env' r
/-- the first that is found is handed out -/
theorem forGo_find (R : Env → Prop) (p : α → Bool) (v : α → PyData) : ∀ (xs : List α) (env : Env), R env →
    (∀ x ∈ xs, ∀ env, R env → ∃ e1, tg (enc x) env = some e1 ∧ (p x = true → g e1 B = some (.rt (v x) B)) ∧ (p x = false → Nx B R (g e1 B))) →
    ∀ x0, xs.find? p = some x0 → forGo tg g (xs.map enc) env B = some (.rt (v x0) B)
  | [], _, _, _, _, e => nomatch e
  | x :: xs, env, r, h, x0, e => by
    obtain ⟨e1, h1, h2, h3⟩ := h x List.mem_cons_self env r
    show ((tg (enc x) env).bind _) = _
    rw [h1, Option.bind_some]
    rw [List.find?_cons] at e
    by_cases hp : p x = true
    · rw [hp] at e
      cases e
      rw [h2 hp]
      rfl
    · rw [Bool.not_eq_true] at hp
      rw [hp] at e
      obtain ⟨e2, h4, r2⟩ := h3 hp
      rw [h4]
      exact forGo_find R p v xs e2 r2 (fun y hy env r => h y (List.mem_cons_of_mem _ hy) env r) x0 e
end loopsB
end Dl

namespace Dl
open PySem L2 Evl PyProof.Rows
def top (i : Nat) : Stmt := PySem.Challenge.pw_soundtitle_k18_rules_and_laws.main.body.getD i (.Pass ⟨0, 0, 0, 0⟩)
section
variable {P : Program} {w : World} {K : PySem.W.Frag} {mg : Str → Option Value} {base : Heap}
abbrev s__law_bag : Stmt := top 8
theorem sc__law_bag : FnScope ["script", "cell"] ["script"] (defScope s__law_bag) := ⟨rfl, rfl, rfl, by decide +kernel, rfl, by decide +kernel, by decide +kernel⟩
theorem bag_ok {f : Addr} {fd : FuncData} (F : Fun K "_law_bag" "_law_bag" s__law_bag f fd) (hA : mg "abs" = none) : FnOk P w K mg base CX0 1 f fd ["script"] (spBag K) := by
  refine F.ok sc__law_bag (fun vs H Q E h => ?_) (fun cdv A outer s H vs Q E hr h => ?_)
  · obtain ⟨a, ns, rfl, _⟩ := h
    rfl
  · obtain ⟨a, ns, rfl, hS, hlen, k⟩ := h
    refine ⟨_, pss_one (ps_ret (pe_lst (pa_cons pe_int (pa_cons pe_int (pa_cons pe_int (pa_cons (pe_lc (own := [("cell", 1)]) rfl sc__law_bag.nd (pi_list (pe_slice sl_list (pv 0) po_none (po_some pe_int)))
      (blkOk_by (N := ["script", "cell"]) (sc := defScope s__law_bag) (by decide +kernel)) (fun _ _ _ _ _ => pg_name (i := 1) sc__law_bag.nd rfl (by first | exact Or.inl rfl | exact Or.inr rfl)) (fun _ _ _ _ _ => pts_nil)
      (fun _ _ _ _ _ => pe_callB call_abs (by rfl) hA (by decide +kernel) (pa_cons (pv 1) pa_nil) (by decide) (by decide) (by rfl) (by rfl))) pa_nil)))))), bag_told hS hlen k⟩
def c_FORGED : List Str := ["never", "next", "once"]
def c_PRIORS : List Str := ["drawn", "entered", "innocent", "both"]
abbrev s_rules : Stmt := top 3
abbrev n_rules : List Str := ["prior", "forged"]
theorem sc_rules : FnScope ["prior", "forged"] [] (defScope s_rules) := ⟨rfl, rfl, rfl, by decide +kernel, rfl, by decide +kernel, by decide +kernel⟩
def d_rules : DS := (dRetO (dCBO oSorted [.e (dLc2 (iS (dC (.tuple (c_PRIORS.map .str)))) (gOne 0) dYes (iS (dC (.tuple (c_FORGED.map .str)))) (gOne 1) dYes (dCB gTuple [.e (dVar 0), .e (dVar 1)]) [0, 1] [1])]))
def F_rules : DFO := dFnO 2 d_rules
theorem df_rules (G_FORGED : GlT K mg "FORGED" c_FORGED) (G_PRIORS : GlT K mg "PRIORS" c_PRIORS) (hB : Bn mg) {f : Addr} {fd : FuncData} (F : Fun K "rules" "rules" s_rules f fd) (hm : mg "rules" = some (.ref f)) : DefO P w K mg base 1 "rules" 0 F_rules :=
  ⟨⟨f, fd, [], fn_okO (N := n_rules) (ps := []) F sc_rules (fun b cdv A outer s H E hr gs => (pdss_one (pds_retO (pdn_sorted hr hB.sorted rfl (pda_cons (pd_lc2 [("prior", 0), ("forged", 1)] [1] rfl sc_rules.nd (pdi_seq (pd_glT G_PRIORS rfl)) (blkOk_by (N := n_rules) (sc := defScope s_rules) (by decide +kernel)) (by decide) (fun _ _ _ _ _ => (pdg_name 0 (pg_name (i := 0) sc_rules.nd rfl (by first | exact Or.inl rfl | exact Or.inr rfl)))) (fun _ _ _ _ _ => pdts_nil) (fun _ _ _ _ _ => (pdi_seq (pd_glT G_FORGED rfl))) (fun _ _ _ _ _ => (pdg_name 1 (pg_name (i := 1) sc_rules.nd rfl (by first | exact Or.inl rfl | exact Or.inr rfl)))) (fun _ _ _ _ _ => pdts_nil) (fun _ _ _ _ _ => (pd_tup (pda_cons (pd_var 0 (pv 0)) (pda_cons (pd_var 1 (pv 1)) pda_nil))))) pda_nil))))), hm, F.kp, F.binds (fun _ _ _ _ _ _ us hl => match us, hl with | [], _ => rfl)⟩⟩
abbrev s_same_doctrine : Stmt := top 4
abbrev n_same_doctrine : List Str := ["one", "other"]
theorem sc_same_doctrine : FnScope ["one", "other"] ["one", "other"] (defScope s_same_doctrine) := ⟨rfl, rfl, rfl, by decide +kernel, rfl, by decide +kernel, by decide +kernel⟩
def d_same_doctrine : DS := (dRet (dOr (dBin gEqA (dVar 0) (dVar 1)) (dChain gEqA gEqA (dBin gIxA (dVar 0) (dC (.int 0))) (dC (.str "drawn")) (dBin gIxA (dVar 1) (dC (.int 0))))))
def F_same_doctrine : DF := dFn 2 d_same_doctrine
theorem df_same_doctrine (hB : Bn mg) {f : Addr} {fd : FuncData} (F : Fun K "same_doctrine" "same_doctrine" s_same_doctrine f fd) (hm : mg "same_doctrine" = some (.ref f)) : Def P w K mg base 1 "same_doctrine" 2 F_same_doctrine :=
  ⟨⟨f, fd, ["one", "other"], fn_ok (N := n_same_doctrine) (ps := ["one", "other"]) F sc_same_doctrine (fun b cdv A outer s H E hr gs => (pdss_one (pds_ret (pd_or (pd_cmp (op_eqA hr.units) r_eqA (pd_var 0 (pv 0)) (pd_var 1 (pv 1))) (pd_one (pd_chain (op_eqA hr.units) (op_eqA hr.units) r_eqA r_eqA (pd_ixA (hu_of hr) (pd_var 0 (pv 0)) pd_int) pd_str (pd_ixA (hu_of hr) (pd_var 1 (pv 1)) pd_int))))))), hm, F.kp, F.binds (fun _ _ _ _ _ _ us hl => match us, hl with | [_, _], _ => rfl)⟩⟩
abbrev s__law_take : Stmt := top 9
abbrev n__law_take : List Str := ["bag", "many", "begin", "second", "cell", "mixed", "drawn"]
theorem sc__law_take : FnScope ["bag", "many", "begin", "second", "cell", "mixed", "drawn"] ["bag", "many"] (defScope s__law_take) := ⟨rfl, rfl, rfl, by decide +kernel, rfl, by decide +kernel, by decide +kernel⟩
def d__law_take : DS := (dSeq (dIfS (dBin gEqA (dBg 0 0) (dC (.int 0)))
    (dSeq (dAsg (gOne 4) (dC (.int 0)))
    (dSeq (dIfS (dBin gLt (dBg 0 2) (dCB gLenA [.e (dBg 0 3)]))
    (dAsg (gOne 4) (dBin gIxA (dBg 0 3) (dBg 0 2)))
    dNil)
    (dSeq (dBgAug 0 2 1)
    (dSeq (dIfS (dBin gGe (dVar 4) (dBin gPow (dC (.int 10)) (dC (.int 18))))
    (dBgSet 0 0 (dVar 4))
    dNil)
    (dSeq (dAsg (gOne 5) (dBin gAdd (dBin gAdd (dBin gMulA (dBg 0 1) (dC (.int 48271))) (dBin gMod (dCB gInt [.e (dVar 4)]) (dC (.int 2147483647)))) (dBin gMulA (dC (.int 7919)) (dBg 0 2))))
    (dBgSet 0 1 (dBin gMod (dCB gInt [.e (dVar 5)]) (dC (.int 2147483647)))))))))
    dNil)
    (dSeq (dIfS (dBin gGt (dBg 0 0) (dC (.int 0)))
    (dSeq (dAsg (gOne 6) (dBin gMod (dCB gInt [.e (dBg 0 0)]) (dVar 1)))
    (dSeq (dBgSet 0 0 (dBin gDiv (dBg 0 0) (dVar 1)))
    (dRet (dVar 6))))
    dNil)
    (dSeq (dAsg (gOne 2) (dBin gMod (dCB gInt [.e (dBin gMulA (dBin gAdd (dBg 0 1) (dC (.int 1))) (dC (.int 39373)))]) (dC (.int 1000000007))))
    (dSeq (dAsg (gOne 3) (dBin gMod (dCB gInt [.e (dBin gMulA (dBin gMod (dCB gInt [.e (dBin gMulA (dVar 2) (dVar 2))]) (dC (.int 998244353))) (dC (.int 30011)))]) (dC (.int 998244353))))
    (dRet (dBin gMod (dCB gInt [.e (dBin gDiv (dVar 3) (dC (.int 7)))]) (dVar 1)))))))
def F__law_take : DF := dFn 7 d__law_take
theorem df__law_take (hB : Bn mg) {f : Addr} {fd : FuncData} (F : Fun K "_law_take" "_law_take" s__law_take f fd) (hm : mg "_law_take" = some (.ref f)) : Def P w K mg base 1 "_law_take" 2 F__law_take :=
  ⟨⟨f, fd, ["bag", "many"], fn_ok (N := n__law_take) (ps := ["bag", "many"]) F sc__law_take (fun b cdv A outer s H E hr gs => (pdss_cons (pds_if (pdt_cmp (op_eqA hr.units) r_eqA (pd_bg 0 0 (pv 0)) pd_int)
    (pdss_cons (pds_set 4 (fun h => ps_set (i := 4) sc__law_take.nd rfl (Or.inl rfl) h) pd_int)
    (pdss_cons (pds_if (pdt_cmp op_lt r_lt (pd_bg 0 2 (pv 0)) (pd_lenA hB.len rfl (pda_cons (pd_bg 0 3 (pv 0)) pda_nil)))
    (pdss_one (pds_set 4 (fun h => ps_set (i := 4) sc__law_take.nd rfl (Or.inl rfl) h) (pd_ixA (hu_of hr) (pd_bg 0 3 (pv 0)) (pd_bg 0 2 (pv 0)))))
    pdss_nil)
    (pdss_cons (pds_bgaug 0 2 1 (by decide) (ps_augS (pv 0) pe_int get_list pe_int ip_add set_list))
    (pdss_cons (pds_if (pdt_cmp op_ge r_ge (pd_var 4 (pv 4)) (pd_bin op_pow r_pow pd_int pd_int))
    (pdss_one (pds_bgset 0 0 (fun h => ps_asg h (pg_sub (pv 0) pe_int set_list)) (pd_var 4 (pv 4))))
    pdss_nil)
    (pdss_cons (pds_set 5 (fun h => ps_set (i := 5) sc__law_take.nd rfl (Or.inl rfl) h) (pd_bin op_addD r_add (pd_bin op_addD r_add (pd_mulA (pd_bg 0 1 (pv 0)) pd_int) (pd_bin op_mod r_mod (pd_int' hB.int rfl (pda_cons (pd_var 4 (pv 4)) pda_nil)) pd_int)) (pd_mulA pd_int (pd_bg 0 2 (pv 0)))))
    (pdss_one (pds_bgset 0 1 (fun h => ps_asg h (pg_sub (pv 0) pe_int set_list)) (pd_bin op_mod r_mod (pd_int' hB.int rfl (pda_cons (pd_var 5 (pv 5)) pda_nil)) pd_int))))))))
    pdss_nil)
    (pdss_cons (pds_if (pdt_cmp op_gt r_gt (pd_bg 0 0 (pv 0)) pd_int)
    (pdss_cons (pds_set 6 (fun h => ps_set (i := 6) sc__law_take.nd rfl (Or.inl rfl) h) (pd_bin op_mod r_mod (pd_int' hB.int rfl (pda_cons (pd_bg 0 0 (pv 0)) pda_nil)) (pd_var 1 (pv 1))))
    (pdss_cons (pds_bgset 0 0 (fun h => ps_asg h (pg_sub (pv 0) pe_int set_list)) (pd_bin op_fdiv r_div (pd_bg 0 0 (pv 0)) (pd_var 1 (pv 1))))
    (pdss_one (pds_ret (pd_var 6 (pv 6))))))
    pdss_nil)
    (pdss_cons (pds_set 2 (fun h => ps_set (i := 2) sc__law_take.nd rfl (Or.inl rfl) h) (pd_bin op_mod r_mod (pd_int' hB.int rfl (pda_cons (pd_mulA (pd_bin op_addD r_add (pd_bg 0 1 (pv 0)) pd_int) pd_int) pda_nil)) pd_int))
    (pdss_cons (pds_set 3 (fun h => ps_set (i := 3) sc__law_take.nd rfl (Or.inl rfl) h) (pd_bin op_mod r_mod (pd_int' hB.int rfl (pda_cons (pd_mulA (pd_bin op_mod r_mod (pd_int' hB.int rfl (pda_cons (pd_mulA (pd_var 2 (pv 2)) (pd_var 2 (pv 2))) pda_nil)) pd_int) pd_int) pda_nil)) pd_int))
    (pdss_one (pds_ret (pd_bin op_mod r_mod (pd_int' hB.int rfl (pda_cons (pd_bin op_fdiv r_div (pd_var 3 (pv 3)) pd_int) pda_nil)) (pd_var 1 (pv 1)))))))))), hm, F.kp, F.binds (fun _ _ _ _ _ _ us hl => match us, hl with | [_, _], _ => rfl)⟩⟩
abbrev s__law_alike : Stmt := top 10
abbrev n__law_alike : List Str := ["found", "due"]
theorem sc__law_alike : FnScope ["found", "due"] ["found", "due"] (defScope s__law_alike) := ⟨rfl, rfl, rfl, by decide +kernel, rfl, by decide +kernel, by decide +kernel⟩
def d__law_alike : DS := (dRet (dAnd (dBin gEqA (dVar 0) (dVar 1)) (dBin gEqA (dCB gRepr [.e (dVar 0)]) (dCB gRepr [.e (dVar 1)]))))
def F__law_alike : DF := dFn 2 d__law_alike
theorem df__law_alike (hB : Bn mg) {f : Addr} {fd : FuncData} (F : Fun K "_law_alike" "_law_alike" s__law_alike f fd) (hm : mg "_law_alike" = some (.ref f)) : Def P w K mg base 1 "_law_alike" 2 F__law_alike :=
  ⟨⟨f, fd, ["found", "due"], fn_ok (N := n__law_alike) (ps := ["found", "due"]) F sc__law_alike (fun b cdv A outer s H E hr gs => (pdss_one (pds_ret (pd_and (pd_cmp (op_eqA hr.units) r_eqA (pd_var 0 (pv 0)) (pd_var 1 (pv 1))) (pd_one (pd_cmp (op_eqA hr.units) r_eqA (pd_repr gs hr hB.repr rfl (pda_cons (pd_var 0 (pv 0)) pda_nil)) (pd_repr gs hr hB.repr rfl (pda_cons (pd_var 1 (pv 1)) pda_nil)))))))), hm, F.kp, F.binds (fun _ _ _ _ _ _ us hl => match us, hl with | [_, _], _ => rfl)⟩⟩
abbrev s__law_rules : Stmt := top 12
abbrev n__law_rules : List Str := ["found", "prior", "forged"]
theorem sc__law_rules : FnScope ["found", "prior", "forged"] [] (defScope s__law_rules) := ⟨rfl, rfl, rfl, by decide +kernel, rfl, by decide +kernel, by decide +kernel⟩
def d__law_rules : DS := (dSeq (dOwn 0 [])
    (dSeq (dFor (iS (dCB gTuple [.e (dC (.str "both")), .e (dC (.str "drawn")), .e (dC (.str "entered")), .e (dC (.str "innocent"))])) (gOne 1)
    (dExt 0 (dLc (iS (dCB gTuple [.e (dC (.str "never")), .e (dC (.str "next")), .e (dC (.str "once"))])) (gOne 2) dYes (dCB gTuple [.e (dVar 1), .e (dVar 2)]) [2])))
    (dRetV 0)))
def F__law_rules : DFO := dFnO 3 d__law_rules
theorem df__law_rules (hB : Bn mg) {f : Addr} {fd : FuncData} (F : Fun K "_law_rules" "_law_rules" s__law_rules f fd) (hm : mg "_law_rules" = some (.ref f)) : DefO P w K mg base 1 "_law_rules" 0 F__law_rules :=
  ⟨⟨f, fd, [], fn_okO (N := n__law_rules) (ps := []) F sc__law_rules (fun b cdv A outer s H E hr gs => (pdss_cons (pds_own 0 pda_nil (fun h => ps_set (i := 0) sc__law_rules.nd rfl (Or.inl rfl) (pe_lst h)))
    (pdss_cons (pds_for PassesOwn.never rfl (pdi_seq (pd_tup (pda_cons pd_str (pda_cons pd_str (pda_cons pd_str (pda_cons pd_str pda_nil)))))) (pdn_name 1 (pg_name (i := 1) sc__law_rules.nd rfl (Or.inr rfl)))
    (pdss_one (pds_extend 0 (fun h => ps_expr (pe_bm PySem.F.plainAttrs_list PySem.F.slot_list_extend PySem.F.type_list_extend mt_extend (pv 0) (pa_cons h pa_nil))) (pd_lc [("forged", 2)] rfl sc__law_rules.nd (pdi_seq (pd_tup (pda_cons pd_str (pda_cons pd_str (pda_cons pd_str pda_nil))))) (blkOk_by (N := n__law_rules) (sc := defScope s__law_rules) (by decide +kernel)) (fun _ _ _ _ _ => (pdg_name 2 (pg_name (i := 2) sc__law_rules.nd rfl (by first | exact Or.inl rfl | exact Or.inr rfl)))) (fun _ _ _ _ _ => pdts_nil) (fun _ _ _ _ _ => (pd_tup (pda_cons (pd_var 1 (pv 1)) (pda_cons (pd_var 2 (pv 2)) pda_nil))))))))
    (pdss_one (pds_retV 0 (pv 0)))))), hm, F.kp, F.binds (fun _ _ _ _ _ _ us hl => match us, hl with | [], _ => rfl)⟩⟩
abbrev s_doctrine_of : Stmt := top 6
abbrev n_doctrine_of : List Str := ["rule", "other"]
theorem sc_doctrine_of : FnScope ["rule", "other"] ["rule"] (defScope s_doctrine_of) := ⟨rfl, rfl, rfl, by decide +kernel, rfl, by decide +kernel, by decide +kernel⟩
def d_doctrine_of : DS := (dRet (dCB gMinD [.e (dLc (iS (dCall 0 (dFzF F_rules) [])) (gOne 1) (dCall 2 F_same_doctrine [.e (dVar 0), .e (dVar 1)]) (dVar 1) [1])]))
def F_doctrine_of : DF := dFn 2 d_doctrine_of
theorem df_doctrine_of (D_rules : DefO P w K mg base 1 "rules" 0 F_rules) (D_same_doctrine : Def P w K mg base 1 "same_doctrine" 2 F_same_doctrine) (hB : Bn mg) {f : Addr} {fd : FuncData} (F : Fun K "doctrine_of" "doctrine_of" s_doctrine_of f fd) (hm : mg "doctrine_of" = some (.ref f)) : Def P w K mg base 2 "doctrine_of" 1 F_doctrine_of :=
  ⟨⟨f, fd, ["rule"], fn_ok (N := n_doctrine_of) (ps := ["rule"]) F sc_doctrine_of (fun b cdv A outer s H E hr gs => (pdss_one (pds_ret (pd_minA hr rfl hB.min rfl (pda_cons (pd_lc [("other", 1)] rfl sc_doctrine_of.nd (pdi_seq (pd_call0 D_rules.d hr gs (by decide) rfl)) (blkOk_by (N := n_doctrine_of) (sc := defScope s_doctrine_of) (by decide +kernel)) (fun _ _ _ _ _ => (pdg_name 1 (pg_name (i := 1) sc_doctrine_of.nd rfl (by first | exact Or.inl rfl | exact Or.inr rfl)))) (fun _ _ _ _ _ => (pdts_one (pdt_val (pd_call D_same_doctrine hr gs (by decide) rfl (pda_cons (pd_var 0 (pv 0)) (pda_cons (pd_var 1 (pv 1)) pda_nil)))))) (fun _ _ _ _ _ => (pd_var 1 (pv 1)))) pda_nil))))), hm, F.kp, F.binds (fun _ _ _ _ _ _ us hl => match us, hl with | [_], _ => rfl)⟩⟩
abbrev s__law_mixed : Stmt := top 11
abbrev n__law_mixed : List Str := ["bag", "things", "found", "thing"]
theorem sc__law_mixed : FnScope ["bag", "things", "found", "thing"] ["bag", "things"] (defScope s__law_mixed) := ⟨rfl, rfl, rfl, by decide +kernel, rfl, by decide +kernel, by decide +kernel⟩
def d__law_mixed : DS := (dSeq (dOwn 2 [])
    (dSeq (dFor (iS (dVar 1)) (gOne 3)
    (dIns 2 (dCall 2 F__law_take [.bag 0, .e (dBin gAdd (dLenO 2) (dC (.int 1)))]) (dVar 3)))
    (dRetV 2)))
def F__law_mixed : DFO := dFnO 4 d__law_mixed
theorem df__law_mixed (D__law_take : Def P w K mg base 1 "_law_take" 2 F__law_take) (hB : Bn mg) {f : Addr} {fd : FuncData} (F : Fun K "_law_mixed" "_law_mixed" s__law_mixed f fd) (hm : mg "_law_mixed" = some (.ref f)) : DefO P w K mg base 2 "_law_mixed" 2 F__law_mixed :=
  ⟨⟨f, fd, ["bag", "things"], fn_okO (N := n__law_mixed) (ps := ["bag", "things"]) F sc__law_mixed (fun b cdv A outer s H E hr gs => (pdss_cons (pds_own 2 pda_nil (fun h => ps_set (i := 2) sc__law_mixed.nd rfl (Or.inl rfl) (pe_lst h)))
    (pdss_cons (pds_for PassesOwn.never rfl (pdi_seq (pd_var 1 (pv 1))) (pdn_name 3 (pg_name (i := 3) sc__law_mixed.nd rfl (Or.inl rfl)))
    (pdss_one (pds_insert 2 (fun h h2 => ps_expr (pe_bm PySem.F.plainAttrs_list PySem.F.slot_list_insert PySem.F.type_list_insert mt_ins (pv 2) (pa_cons h (pa_cons h2 pa_nil)))) (pd_call D__law_take hr gs (by decide) rfl (pda_bag 0 (pv 0) (pda_cons (pd_bin op_addD r_add (pd_lenO 2 rfl hB.len (pv 2)) pd_int) pda_nil))) (pd_var 3 (pv 3)))))
    (pdss_one (pds_retV 2 (pv 2)))))), hm, F.kp, F.binds (fun _ _ _ _ _ _ us hl => match us, hl with | [_, _], _ => rfl)⟩⟩
abbrev s_doctrines : Stmt := top 5
abbrev n_doctrines : List Str := ["rule"]
theorem sc_doctrines : FnScope ["rule"] [] (defScope s_doctrines) := ⟨rfl, rfl, rfl, by decide +kernel, rfl, by decide +kernel, by decide +kernel⟩
def d_doctrines : DS := (dRetO (dLcO (iS (dCall 0 (dFzF F_rules) [])) (gOne 0) (dBin gEqA (dVar 0) (dCall 1 F_doctrine_of [.e (dVar 0)])) (dVar 0) [0]))
def F_doctrines : DFO := dFnO 1 d_doctrines
theorem df_doctrines (D_rules : DefO P w K mg base 1 "rules" 0 F_rules) (D_doctrine_of : Def P w K mg base 2 "doctrine_of" 1 F_doctrine_of) (hB : Bn mg) {f : Addr} {fd : FuncData} (F : Fun K "doctrines" "doctrines" s_doctrines f fd) (hm : mg "doctrines" = some (.ref f)) : DefO P w K mg base 3 "doctrines" 0 F_doctrines :=
  ⟨⟨f, fd, [], fn_okO (N := n_doctrines) (ps := []) F sc_doctrines (fun b cdv A outer s H E hr gs => (pdss_one (pds_retO (pdn_lc [("rule", 0)] rfl sc_doctrines.nd (pdi_seq (pd_call0 D_rules.d hr gs (by decide) rfl)) (blkOk_by (N := n_doctrines) (sc := defScope s_doctrines) (by decide +kernel)) (fun _ _ _ _ _ => (pdg_name 0 (pg_name (i := 0) sc_doctrines.nd rfl (by first | exact Or.inl rfl | exact Or.inr rfl)))) (fun _ _ _ _ _ => (pdts_one (pdt_cmp (op_eqA hr.units) r_eqA (pd_var 0 (pv 0)) (pd_call D_doctrine_of hr gs (by decide) rfl (pda_cons (pd_var 0 (pv 0)) pda_nil))))) (fun _ _ _ _ _ => (pd_var 0 (pv 0))))))), hm, F.kp, F.binds (fun _ _ _ _ _ _ us hl => match us, hl with | [], _ => rfl)⟩⟩
abbrev s_law : Stmt := top 13
abbrev n_law : List Str := ["script", "bag", "every", "least", "again", "one", "found", "row", "due", "other", "rule", "is_same"]
theorem sc_law : FnScope ["script", "bag", "every", "least", "again", "one", "found", "row", "due", "other", "rule", "is_same"] ["script"] (defScope s_law) := ⟨rfl, rfl, rfl, by decide +kernel, rfl, by decide +kernel, by decide +kernel⟩
def d_law : DS := (dSeq (dAsg (gOne 2) (dCall 0 (dFzF F__law_rules) []))
    (dSeq (dAsg (gOne 3) (dLc (iS (dVar 2)) (gOne 10) (dOr (dBin gNeA (dBin gIxA (dVar 10) (dC (.int 0))) (dC (.str "drawn"))) (dBin gEqA (dBin gIxA (dVar 10) (dC (.int 1))) (dC (.str "never")))) (dVar 10) [10]))
    (dSeq (dFor (iR1 (dC (.int 3))) (gOne 4)
    (dTold 6 7 (dCallO 0 F_rules []) (dCallO 0 F_doctrines []) (dUn gNot (dCall 2 F__law_alike [.e (dVar 6), .e (dCB gList [.e (dVar 2), .e (dVar 3)])])) (dRet (dC (.bool false)))))
    (dSeq (dFor (iS (dCall 2 (dFzF F__law_mixed) [.bag 1, .e (dVar 2)])) (gOne 5)
    (dSeq (dAsg (gOne 8) (dIf (dBin gEqA (dBin gIxA (dVar 5) (dC (.int 0))) (dC (.str "drawn"))) (dCB gTuple [.e (dC (.str "drawn")), .e (dC (.str "never"))]) (dVar 5)))
    (dSeq (dIfS (dOr (dUn gNot (dCall 2 F__law_alike [.e (dCall 1 F_doctrine_of [.e (dVar 5)]), .e (dVar 8)])) (dBin gNotInB (dCall 1 F_doctrine_of [.e (dVar 5)]) (dCall 0 (dFzF F_doctrines) [])))
    (dRet (dC (.bool false)))
    dNil)
    (dFor (iS (dCall 2 (dFzF F__law_mixed) [.bag 1, .e (dVar 2)])) (gOne 9)
    (dSeq (dAsg (gOne 11) (dOr (dBin gEqA (dVar 5) (dVar 9)) (dAnd (dBin gEqA (dBin gIxA (dVar 5) (dC (.int 0))) (dC (.str "drawn"))) (dBin gEqA (dBin gIxA (dVar 9) (dC (.int 0))) (dC (.str "drawn"))))))
    (dIfS (dUn gNot (dCall 2 F__law_alike [.e (dCB gList [.e (dCall 2 F_same_doctrine [.e (dVar 5), .e (dVar 9)]), .e (dCall 2 F_same_doctrine [.e (dVar 9), .e (dVar 5)])]), .e (dCB gList [.e (dVar 11), .e (dVar 11)])]))
    (dRet (dC (.bool false)))
    dNil))))))
    (dRet (dC (.bool true)))))))
def LawVal : Prop := ∀ ns : List Int, ns.length ≤ 63 → ∃ B', d_law (.no :: .bag :: List.replicate 10 .no) (bag0 ns) = some (.rt (.bool true) B')
theorem law_ok (val : LawVal) (D__law_rules : DefO P w K mg base 1 "_law_rules" 0 F__law_rules) (D__law_mixed : DefO P w K mg base 2 "_law_mixed" 2 F__law_mixed) (D_rules : DefO P w K mg base 1 "rules" 0 F_rules) (D_doctrines : DefO P w K mg base 3 "doctrines" 0 F_doctrines) (D__law_alike : Def P w K mg base 1 "_law_alike" 2 F__law_alike) (D_doctrine_of : Def P w K mg base 2 "doctrine_of" 1 F_doctrine_of) (D_same_doctrine : Def P w K mg base 1 "same_doctrine" 2 F_same_doctrine) {f fB : Addr} {fd fdB : FuncData} (F : Fun K "law" "law" s_law f fd) (FB : Fun K "_law_bag" "_law_bag" s__law_bag fB fdB) (bB : Binds K fdB ["script"] []) (mB : mg "_law_bag" = some (.ref fB)) (hB : Bn mg) : FnG P w K mg base 4 f fd ["script"] (spLaw K) := by
  refine law_fn (n := 10) (k := 3) (g := d_law) F sc_law rfl rfl (fun cdv A outer s H E hr => ps_set (i := 1) sc_law.nd rfl (Or.inl rfl) (pe_call (bag_ok FB hB.abs) (hr.mono (by decide)) (by rfl) mB FB.kp bB .nil pass0 (pa_cons (pv 0) pa_nil))) (fun b cdv A outer s H E hr gs => ?_) val
  exact (pdss_cons (pds_set 2 (fun h => ps_set (i := 2) sc_law.nd rfl (Or.inl rfl) h) (pd_call0 D__law_rules.d hr gs (by decide) rfl))
    (pdss_cons (pds_setLc 3 [("rule", 10)] rfl sc_law.nd rfl rfl (sw_true rfl rfl rfl (by decide +kernel)) (pdi_seq (pd_var 2 (pv 2))) (blkOk_by (N := n_law) (sc := defScope s_law) (by decide +kernel)) (fun _ _ _ _ _ => (pdg_name 10 (pg_name (i := 10) sc_law.nd rfl (by first | exact Or.inl rfl | exact Or.inr rfl)))) (fun _ _ _ _ _ => (pdts_one (pdt_w (pdw_or (pdt_cmp (op_neA hr.units) r_neA (pd_ixA (hu_of hr) (pd_var 10 (pv 10)) pd_int) pd_str) (pdw_or1 (pdt_cmp (op_eqA hr.units) r_eqA (pd_ixA (hu_of hr) (pd_var 10 (pv 10)) pd_int) pd_str)))))) (fun _ _ _ _ _ => (pd_var 10 (pv 10))))
    (pdss_cons (pds_for PassesOwn.never rfl (pdi_range1 rfl hB.range pd_int) (pdn_name 4 (pg_name (i := 4) sc_law.nd rfl (Or.inl rfl)))
    (pds_told 6 7 (pdn_call0 D_rules hr gs (by decide) rfl) (pdn_call0 D_doctrines hr gs (by decide) rfl) (fun h => ps_set (i := 6) sc_law.nd rfl (Or.inl rfl) (pe_lst h)) (pdt_not (pdt_val (pd_call D__law_alike hr gs (by decide) rfl (pda_cons (pd_var 6 (pv 6)) (pda_cons (pd_lst (pda_cons (pd_var 2 (pv 2)) (pda_cons (pd_var 3 (pv 3)) pda_nil))) pda_nil))))) (pdss_one (pds_ret pd_bl)) (ps_for PassesOwn.never rfl (pi_list (pv 6)) (pg_name (i := 7) sc_law.nd rfl (Or.inl rfl)) (pss_one (ps_expr (pe_bm PySem.F.plainAttrs_list PySem.F.slot_list_append PySem.F.type_list_append mt_append (pv 7) (pa_cons pe_non pa_nil)))))))
    (pdss_cons (pds_for PassesOwn.never rfl (pdi_seq (pd_call D__law_mixed.d hr gs (by decide) rfl (pda_bag 1 (pv 1) (pda_cons (pd_var 2 (pv 2)) pda_nil)))) (pdn_name 5 (pg_name (i := 5) sc_law.nd rfl (Or.inl rfl)))
    (pdss_cons (pds_set 8 (fun h => ps_set (i := 8) sc_law.nd rfl (Or.inl rfl) h) (pd_if (pdt_cmp (op_eqA hr.units) r_eqA (pd_ixA (hu_of hr) (pd_var 5 (pv 5)) pd_int) pd_str) (pd_tup (pda_cons pd_str (pda_cons pd_str pda_nil))) (pd_var 5 (pv 5))))
    (pdss_cons (pds_if (pdt_w (pdw_or (pdt_not (pdt_val (pd_call D__law_alike hr gs (by decide) rfl (pda_cons (pd_call D_doctrine_of hr gs (by decide) rfl (pda_cons (pd_var 5 (pv 5)) pda_nil)) (pda_cons (pd_var 8 (pv 8)) pda_nil))))) (pdw_or1 (pdt_notinB (hu_of hr) (un65 hr) (pd_call D_doctrine_of hr gs (by decide) rfl (pda_cons (pd_var 5 (pv 5)) pda_nil)) (pd_call0 D_doctrines.d hr gs (by decide) rfl)))))
    (pdss_one (pds_ret pd_bl))
    pdss_nil)
    (pdss_one (pds_for PassesOwn.never rfl (pdi_seq (pd_call D__law_mixed.d hr gs (by decide) rfl (pda_bag 1 (pv 1) (pda_cons (pd_var 2 (pv 2)) pda_nil)))) (pdn_name 9 (pg_name (i := 9) sc_law.nd rfl (Or.inl rfl)))
    (pdss_cons (pds_set 11 (fun h => ps_set (i := 11) sc_law.nd rfl (Or.inl rfl) h) (pd_or (pd_cmp (op_eqA hr.units) r_eqA (pd_var 5 (pv 5)) (pd_var 9 (pv 9))) (pd_one (pd_and (pd_cmp (op_eqA hr.units) r_eqA (pd_ixA (hu_of hr) (pd_var 5 (pv 5)) pd_int) pd_str) (pd_one (pd_cmp (op_eqA hr.units) r_eqA (pd_ixA (hu_of hr) (pd_var 9 (pv 9)) pd_int) pd_str))))))
    (pdss_one (pds_if (pdt_not (pdt_val (pd_call D__law_alike hr gs (by decide) rfl (pda_cons (pd_lst (pda_cons (pd_call D_same_doctrine hr gs (by decide) rfl (pda_cons (pd_var 5 (pv 5)) (pda_cons (pd_var 9 (pv 9)) pda_nil))) (pda_cons (pd_call D_same_doctrine hr gs (by decide) rfl (pda_cons (pd_var 9 (pv 9)) (pda_cons (pd_var 5 (pv 5)) pda_nil))) pda_nil))) (pda_cons (pd_lst (pda_cons (pd_var 11 (pv 11)) (pda_cons (pd_var 11 (pv 11)) pda_nil))) pda_nil)))))
    (pdss_one (pds_ret pd_bl))
    pdss_nil))))))))
    (pdss_one (pds_ret pd_bl))))))
end
theorem all_mk (val : LawVal) {l : PySem.W.OpenLaw} {w : World} {K : PySem.W.Frag} {h : Heap} {mg : Str → Option Value} {fa f0 f1 f2 f3 f4 f5 f6 f7 f8 f9 : Addr} (X : K.In h) (G : h.Ns mainGlobals mg) (hfa : mg "law" = some (.ref fa))
    {od0 od1 od2 od3 od4 od5 od6 od7 od8 od9 an0 an1 an2 an3 an4 an5 an6 an7 an8 an9 : Option Addr} {sl0 sl1 sl2 sl3 sl4 sl5 sl6 sl7 sl8 sl9 : Array (Option Value)} {oc0 oc1 oc2 oc3 oc4 oc5 oc6 oc7 oc8 oc9 kV0 kV1 kV2 kV3 kV4 kV5 kV6 kV7 kV8 kV9 dc0 dc1 dc2 dc3 dc4 dc5 dc6 dc7 dc8 dc9 pm0 pm1 pm2 pm3 pm4 pm5 pm6 pm7 pm8 pm9 cd0 cd1 cd2 cd3 cd4 cd5 cd6 cd7 cd8 cd9 ct0 ct1 ct2 ct3 ct4 ct5 ct6 ct7 ct8 ct9 : Value}
    (a0 : PySem.W.nsIn K mainGlobals "_law_bag" = some (some (.ref f0))) (l0 : K.lookup f0 = some ⟨oc0, od0, .func (PySem.W.fnOf "_law_bag" "_law_bag" (defArgs s__law_bag) (defBody s__law_bag) (defScope s__law_bag) .none kV0 dc0 pm0 an0 cd0 ct0), sl0⟩) (c0 : PySem.W.codeIn K cd0 "_law_bag" = true) (k0 : PySem.W.keepIn K (.ref f0) = true)
    (a1 : PySem.W.nsIn K mainGlobals "rules" = some (some (.ref f1))) (l1 : K.lookup f1 = some ⟨oc1, od1, .func (PySem.W.fnOf "rules" "rules" (defArgs s_rules) (defBody s_rules) (defScope s_rules) .none kV1 dc1 pm1 an1 cd1 ct1), sl1⟩) (c1 : PySem.W.codeIn K cd1 "rules" = true) (k1 : PySem.W.keepIn K (.ref f1) = true)
    (a2 : PySem.W.nsIn K mainGlobals "same_doctrine" = some (some (.ref f2))) (l2 : K.lookup f2 = some ⟨oc2, od2, .func (PySem.W.fnOf "same_doctrine" "same_doctrine" (defArgs s_same_doctrine) (defBody s_same_doctrine) (defScope s_same_doctrine) .none kV2 dc2 pm2 an2 cd2 ct2), sl2⟩) (c2 : PySem.W.codeIn K cd2 "same_doctrine" = true) (k2 : PySem.W.keepIn K (.ref f2) = true)
    (a3 : PySem.W.nsIn K mainGlobals "_law_take" = some (some (.ref f3))) (l3 : K.lookup f3 = some ⟨oc3, od3, .func (PySem.W.fnOf "_law_take" "_law_take" (defArgs s__law_take) (defBody s__law_take) (defScope s__law_take) .none kV3 dc3 pm3 an3 cd3 ct3), sl3⟩) (c3 : PySem.W.codeIn K cd3 "_law_take" = true) (k3 : PySem.W.keepIn K (.ref f3) = true)
    (a4 : PySem.W.nsIn K mainGlobals "_law_alike" = some (some (.ref f4))) (l4 : K.lookup f4 = some ⟨oc4, od4, .func (PySem.W.fnOf "_law_alike" "_law_alike" (defArgs s__law_alike) (defBody s__law_alike) (defScope s__law_alike) .none kV4 dc4 pm4 an4 cd4 ct4), sl4⟩) (c4 : PySem.W.codeIn K cd4 "_law_alike" = true) (k4 : PySem.W.keepIn K (.ref f4) = true)
    (a5 : PySem.W.nsIn K mainGlobals "_law_rules" = some (some (.ref f5))) (l5 : K.lookup f5 = some ⟨oc5, od5, .func (PySem.W.fnOf "_law_rules" "_law_rules" (defArgs s__law_rules) (defBody s__law_rules) (defScope s__law_rules) .none kV5 dc5 pm5 an5 cd5 ct5), sl5⟩) (c5 : PySem.W.codeIn K cd5 "_law_rules" = true) (k5 : PySem.W.keepIn K (.ref f5) = true)
    (a6 : PySem.W.nsIn K mainGlobals "doctrine_of" = some (some (.ref f6))) (l6 : K.lookup f6 = some ⟨oc6, od6, .func (PySem.W.fnOf "doctrine_of" "doctrine_of" (defArgs s_doctrine_of) (defBody s_doctrine_of) (defScope s_doctrine_of) .none kV6 dc6 pm6 an6 cd6 ct6), sl6⟩) (c6 : PySem.W.codeIn K cd6 "doctrine_of" = true) (k6 : PySem.W.keepIn K (.ref f6) = true)
    (a7 : PySem.W.nsIn K mainGlobals "_law_mixed" = some (some (.ref f7))) (l7 : K.lookup f7 = some ⟨oc7, od7, .func (PySem.W.fnOf "_law_mixed" "_law_mixed" (defArgs s__law_mixed) (defBody s__law_mixed) (defScope s__law_mixed) .none kV7 dc7 pm7 an7 cd7 ct7), sl7⟩) (c7 : PySem.W.codeIn K cd7 "_law_mixed" = true) (k7 : PySem.W.keepIn K (.ref f7) = true)
    (a8 : PySem.W.nsIn K mainGlobals "doctrines" = some (some (.ref f8))) (l8 : K.lookup f8 = some ⟨oc8, od8, .func (PySem.W.fnOf "doctrines" "doctrines" (defArgs s_doctrines) (defBody s_doctrines) (defScope s_doctrines) .none kV8 dc8 pm8 an8 cd8 ct8), sl8⟩) (c8 : PySem.W.codeIn K cd8 "doctrines" = true) (k8 : PySem.W.keepIn K (.ref f8) = true)
    (a9 : PySem.W.nsIn K mainGlobals "law" = some (some (.ref f9))) (l9 : K.lookup f9 = some ⟨oc9, od9, .func (PySem.W.fnOf "law" "law" (defArgs s_law) (defBody s_law) (defScope s_law) .none kV9 dc9 pm9 an9 cd9 ct9), sl9⟩) (c9 : PySem.W.codeIn K cd9 "law" = true) (k9 : PySem.W.keepIn K (.ref f9) = true)
    {gf0 : Addr} {gi0 : Array Value} {gn0 : Nat} {gs0 : Array (Option Value)} (ga0 : PySem.W.nsIn K mainGlobals "FORGED" = some (some (.ref gf0))) (gb0 : K.lookup gf0 = some ⟨.type "tuple", none, .seq gi0 gn0, gs0⟩) (gc0 : strsOf gi0.toList = some c_FORGED)
    {gf1 : Addr} {gi1 : Array Value} {gn1 : Nat} {gs1 : Array (Option Value)} (ga1 : PySem.W.nsIn K mainGlobals "PRIORS" = some (some (.ref gf1))) (gb1 : K.lookup gf1 = some ⟨.type "tuple", none, .seq gi1 gn1, gs1⟩) (gc1 : strsOf gi1.toList = some c_PRIORS)
    (z_len : PySem.W.nsIn K mainGlobals "len" = some none) (z_abs : PySem.W.nsIn K mainGlobals "abs" = some none) (z_range : PySem.W.nsIn K mainGlobals "range" = some none) (z_int : PySem.W.nsIn K mainGlobals "int" = some none) (z_max : PySem.W.nsIn K mainGlobals "max" = some none) (z_min : PySem.W.nsIn K mainGlobals "min" = some none) (z_sorted : PySem.W.nsIn K mainGlobals "sorted" = some none) (z_dict : PySem.W.nsIn K mainGlobals "dict" = some none) (z_list : PySem.W.nsIn K mainGlobals "list" = some none) (z_tuple : PySem.W.nsIn K mainGlobals "tuple" = some none) (z_zip : PySem.W.nsIn K mainGlobals "zip" = some none) (z_enumerate : PySem.W.nsIn K mainGlobals "enumerate" = some none) (z_repr : PySem.W.nsIn K mainGlobals "repr" = some none) (z_set : PySem.W.nsIn K mainGlobals "set" = some none) (z_isinstance : PySem.W.nsIn K mainGlobals "isinstance" = some none) (z_str : PySem.W.nsIn K mainGlobals "str" = some none) (z_bool : PySem.W.nsIn K mainGlobals "bool" = some none) (z_sum : PySem.W.nsIn K mainGlobals "sum" = some none) (z_all : PySem.W.nsIn K mainGlobals "all" = some none) (z_any : PySem.W.nsIn K mainGlobals "any" = some none) :
    ∃ fd : FuncData, (∀ (s : Shared) (v : Value), BindsTo s fd ⟨[v], []⟩ [("script", v)]) ∧ ∀ base : Heap, K.In base → base.Ns mainGlobals mg → FnG l.prog w K mg base 4 fa fd ["script"] (spLaw K) := by
  have e := hfa.symm.trans (PySem.W.mg_of X G a9)
  cases e
  have no : ∀ {x : Str}, PySem.W.nsIn K mainGlobals x = some none → mg x = none := fun z => PySem.W.mg_none_of X G z
  have hB : Bn mg := ⟨no z_len, no z_abs, no z_range, no z_int, no z_max, no z_min, no z_sorted, no z_dict, no z_list, no z_tuple, no z_zip, no z_enumerate, no z_repr, no z_set, no z_isinstance, no z_str, no z_bool, no z_sum, no z_all, no z_any⟩
  have F0 := fun_mk (st := s__law_bag) l0 c0 k0
  have F1 := fun_mk (st := s_rules) l1 c1 k1
  have F2 := fun_mk (st := s_same_doctrine) l2 c2 k2
  have F3 := fun_mk (st := s__law_take) l3 c3 k3
  have F4 := fun_mk (st := s__law_alike) l4 c4 k4
  have F5 := fun_mk (st := s__law_rules) l5 c5 k5
  have F6 := fun_mk (st := s_doctrine_of) l6 c6 k6
  have F7 := fun_mk (st := s__law_mixed) l7 c7 k7
  have F8 := fun_mk (st := s_doctrines) l8 c8 k8
  have F9 := fun_mk (st := s_law) l9 c9 k9
  have G_FORGED : GlT K mg "FORGED" c_FORGED := glT_mk (PySem.W.mg_of X G ga0) gb0 gc0 (by decide)
  have G_PRIORS : GlT K mg "PRIORS" c_PRIORS := glT_mk (PySem.W.mg_of X G ga1) gb1 gc1 (by decide)
  have bB := F0.binds (ps := ["script"]) fun _ _ _ _ _ _ us hl => match us, hl with | [_], _ => rfl
  refine ⟨PySem.W.fnOf "law" "law" (defArgs s_law) (defBody s_law) (defScope s_law) .none kV9 dc9 pm9 an9 cd9 ct9, fun s v => .of_eq rfl, fun base _ _ => ?_⟩
  have D_rules := df_rules (P := l.prog) (w := w) (base := base) G_FORGED G_PRIORS hB F1 (PySem.W.mg_of X G a1)
  have D_same_doctrine := df_same_doctrine (P := l.prog) (w := w) (base := base) hB F2 (PySem.W.mg_of X G a2)
  have D__law_take := df__law_take (P := l.prog) (w := w) (base := base) hB F3 (PySem.W.mg_of X G a3)
  have D__law_alike := df__law_alike (P := l.prog) (w := w) (base := base) hB F4 (PySem.W.mg_of X G a4)
  have D__law_rules := df__law_rules (P := l.prog) (w := w) (base := base) hB F5 (PySem.W.mg_of X G a5)
  have D_doctrine_of := df_doctrine_of (P := l.prog) (w := w) (base := base) D_rules D_same_doctrine hB F6 (PySem.W.mg_of X G a6)
  have D__law_mixed := df__law_mixed (P := l.prog) (w := w) (base := base) D__law_take hB F7 (PySem.W.mg_of X G a7)
  have D_doctrines := df_doctrines (P := l.prog) (w := w) (base := base) D_rules D_doctrine_of hB F8 (PySem.W.mg_of X G a8)
  exact law_ok val D__law_rules D__law_mixed D_rules D_doctrines D__law_alike D_doctrine_of D_same_doctrine F9 F0 bB (PySem.W.mg_of X G a0) hB
/-! EY: what operators give on data of known form. -/
theorem eqA_str (x y : Str) : gEqA (.str x) (.str y) = some (.bool (x == y)) := rfl
theorem neA_str (x y : Str) : gNeA (.str x) (.str y) = some (.bool (!(x == y))) := rfl
theorem gNot_bool (c : Bool) : gNot (.bool c) = some (.bool (!c)) := rfl
theorem gTuple_ok {xs : List PyData} (h : xs.length ≤ 100000) : gTuple xs = some (.tuple xs) := by
  show (if _ then _ else _) = _
  rw [if_pos h]
theorem gList_ok {xs : List PyData} (h : xs.length ≤ 100000) : gList xs = some (.list xs) := by
  show (if _ then _ else _) = _
  rw [if_pos h]
/-! items -/
theorem gIxA_tup (xs : List PyData) (i : Int) : gIxA (.tuple xs) (.int i) = atI xs i := by
  show (atI xs i).or none = _
  rw [Option.or_none]
section
variable {α : Type} (a b c d e f g : α) (l : List α)
theorem atI_g {xs : List α} {k : Nat} {x : α} (h : xs[k]? = some x) : atI xs (k : Int) = some x := by
  have hk := (List.getElem?_eq_some_iff.mp h).1
  rw [atI_nat hk, ← List.getElem?_eq_getElem hk, h]
theorem atI_0 : atI (a :: l) 0 = some a := atI_g (k := 0) rfl
theorem atI_1 : atI (a :: b :: l) 1 = some b := atI_g (k := 1) rfl
end
/-! in, not in, of texts and of numbers -/
section
variable (x : Str) (l : List Str) (n : Int) (ns : List Int)
end
/-! numbers of papers, as data -/
section
variable (n : Nat) (ns : List Nat)
end
/-! slices -/
/-! range, enumerate, as data -/
/-- both, one of, either way: by what was told first -/
def bAnd (p : PyData × Bg) (x : Option (PyData × Bg)) : Option (PyData × Bg) := match p.1 with
  | .bool true => x
  | .bool false => some (.bool false, p.2)
  | _ => none
def bOr (p : PyData × Bg) (x : Option (PyData × Bg)) : Option (PyData × Bg) := match p.1 with
  | .bool false => x
  | .bool true => some (.bool true, p.2)
  | _ => none
def bIf {α : Type} (p : PyData × Bg) (x y : Option α) : Option α := match p.1 with
  | .bool true => x
  | .bool false => y
  | _ => none
section
variable (B : Bg) (x : Option (PyData × Bg)) (b c : Bool)
theorem bAnd_t : bAnd (.bool true, B) x = x := rfl
theorem bAnd_f : bAnd (.bool false, B) x = some (.bool false, B) := rfl
theorem bAnd_b : bAnd (.bool b, B) (some (.bool c, B)) = some (.bool (b && c), B) := by cases b <;> rfl
theorem bOr_t : bOr (.bool true, B) x = some (.bool true, B) := rfl
theorem bOr_f : bOr (.bool false, B) x = x := rfl
theorem bOr_b : bOr (.bool b, B) (some (.bool c, B)) = some (.bool (b || c), B) := by cases b <;> rfl
theorem bIf_b {α : Type} (x y : Option α) : bIf (.bool b, B) x y = if b = true then x else y := by cases b <;> rfl
end
theorem dAnd_ap (f1 f2 : DE) (env : Env) (B : Bg) : dAnd f1 f2 env B = (f1 env B).bind fun p => bAnd p (f2 env p.2) := rfl
theorem dOr_ap (f1 f2 : DE) (env : Env) (B : Bg) : dOr f1 f2 env B = (f1 env B).bind fun p => bOr p (f2 env p.2) := rfl
theorem dIf_ap (f1 f2 f3 : DE) (env : Env) (B : Bg) : dIf f1 f2 f3 env B = (f1 env B).bind fun p => bIf p (f2 env p.2) (f3 env p.2) := rfl
theorem dIfS_ap (c : DE) (g1 g2 : DS) (env : Env) (B : Bg) : dIfS c g1 g2 env B = (c env B).bind fun p => bIf p (g1 env p.2) (g2 env p.2) := rfl
theorem dIfO_ap (c : DE) (f1 f2 : DEO) (env : Env) (B : Bg) : dIfO c f1 f2 env B = (c env B).bind fun p => bIf p (f1 env p.2) (f2 env p.2) := rfl
theorem dSeq_ap (g1 g2 : DS) (env : Env) (B : Bg) : dSeq g1 g2 env B = (g1 env B).bind fun o => match o with
  | .nx env B => g2 env B
  | o => some o := rfl
theorem dAsg_ap (tg : DG) (f : DE) (env : Env) (B : Bg) : dAsg tg f env B = (f env B).bind fun p => (tg p.1 env).map fun e => .nx e p.2 := rfl
theorem dRet_ap (f : DE) (env : Env) (B : Bg) : dRet f env B = (f env B).map fun p => .rt p.1 p.2 := rfl
theorem dRetO_ap (f : DEO) (env : Env) (B : Bg) : dRetO f env B = (f env B).map fun p => .ro p.1 p.2 := rfl
theorem dRetV_ap (i : Nat) (env : Env) (B : Bg) : dRetV i env B = match env[i]? with
  | some (.own c) => some (.ro c B)
  | some (.sh d) => some (.rt d B)
  | _ => none := rfl
theorem dNil_ap (env : Env) (B : Bg) : dNil  env B = some (.nx env B) := rfl
theorem dNever_ap (env : Env) (B : Bg) : dNever  env B = none := rfl
theorem dVar_ap (i : Nat) (env : Env) (B : Bg) : dVar i env B = match env[i]? with
  | some (.sh d) => some (d, B)
  | _ => none := rfl
theorem dC_ap (d : PyData) (env : Env) (B : Bg) : dC d env B = some (d, B) := rfl
theorem dBin_ap (g : PyData → PyData → Option PyData) (f1 f2 : DE) (env : Env) (B : Bg) : dBin g f1 f2 env B = (f1 env B).bind fun p => (f2 env p.2).bind fun q => (g p.1 q.1).map fun d => (d, q.2) := rfl
theorem dUn_ap (g : PyData → Option PyData) (f : DE) (env : Env) (B : Bg) : dUn g f env B = (f env B).bind fun p => (g p.1).map fun d => (d, p.2) := rfl
theorem dCB_ap (g : List PyData → Option PyData) (as : List DAr) (env : Env) (B : Bg) : dCB g as env B = (dArgs as env B).bind fun p => (arD p.1).bind fun ds => (g ds).map fun d => (d, p.2) := rfl
theorem dCall_ap (n : Nat) (F : DF) (as : List DAr) (env : Env) (B : Bg) : dCall n F as env B = (dArgs as env B).bind fun p => if p.1.length = n then F p.1 p.2 else none := rfl
theorem dPush_ap (i : Nat) (f : DE) (env : Env) (B : Bg) : dPush i f env B = (f env B).bind fun p => match env[i]? with
  | some (.own (.l ds)) => if ds.length < 100000 then some (.nx (env.set i (.own (.l (ds ++ [p.1])))) p.2) else none
  | _ => none := rfl
theorem dParX_ap (i j : Nat) (f1 f2 : DX) (env : Env) (B : Bg) : dParX i j f1 f2 env B = (f1 env B).bind fun p => (f2 env p.2).bind fun q => some (.nx ((env.set i p.1).set j q.1) q.2) := rfl
theorem dParX3_ap (i j l : Nat) (f1 f2 f3 : DX) (env : Env) (B : Bg) : dParX3 i j l f1 f2 f3 env B = (f1 env B).bind fun p => (f2 env p.2).bind fun q => (f3 env q.2).bind fun r => some (.nx (((env.set i p.1).set j q.1).set l r.1) r.2) := rfl
theorem xD_ap (f : DE) (env : Env) (B : Bg) : xD f env B = (f env B).map fun p => (.sh p.1, p.2) := rfl
theorem xO_ap (f : DEO) (env : Env) (B : Bg) : xO f env B = (f env B).map fun p => (.own p.1, p.2) := rfl
theorem dCallO_ap (n : Nat) (F : DFO) (as : List DAr) (env : Env) (B : Bg) : dCallO n F as env B = (dArgs as env B).bind fun p => if p.1.length = n then F p.1 p.2 else none := rfl
theorem dFzF_ap (F : DFO) (as : List Ar) (B : Bg) : dFzF F as B = (F as B).map fun p => (p.1.data, p.2) := rfl
theorem dFzE_ap (f : DEO) (env : Env) (B : Bg) : dFzE f env B = (f env B).map fun p => (p.1.data, p.2) := rfl
theorem dFrz_ap (i : Nat) (g : DS) (env : Env) (B : Bg) : dFrz i g env B = match env[i]? with
  | some (.own ds) => g (env.set i (.sh ds.data)) B
  | _ => g env B := rfl
theorem dIxO_ap (i : Nat) (f : DE) (env : Env) (B : Bg) : dIxO i f env B = (f env B).bind fun p => match env[i]?, p.1 with
  | some (.own (.l ds)), .int n => (atI ds n).map fun d => (d, p.2)
  | some (.sh (.list ds)), .int n => (atI ds n).map fun d => (d, p.2)
  | some (.sh (.tuple ds)), .int n => (atI ds n).map fun d => (d, p.2)
  | _, _ => none := rfl
theorem dLenO_ap (i : Nat) (env : Env) (B : Bg) : dLenO i env B = match env[i]? with
  | some (.own (.l ds)) => some (.int ds.length, B)
  | some (.sh (.list ds)) => some (.int ds.length, B)
  | _ => none := rfl
theorem dOwn_ap (i : Nat) (as : List DAr) (env : Env) (B : Bg) : dOwn i as env B = (dArgs as env B).bind fun p => (arD p.1).bind fun ds => if ds.length ≤ 100000 then some (.nx (env.set i (.own (.l ds))) p.2) else none := rfl
theorem dOwnD_ap (i : Nat) (env : Env) (B : Bg) : dOwnD i env B = some (.nx (env.set i (.own (.d []))) B) := rfl
theorem dOwnE_ap (i : Nat) (f : DEO) (env : Env) (B : Bg) : dOwnE i f env B = (f env B).map fun p => .nx (env.set i (.own p.1)) p.2 := rfl
theorem dPutO_ap (i : Nat) (fk fv : DE) (env : Env) (B : Bg) : dPutO i fk fv env B = (fv env B).bind fun p => (fk env p.2).bind fun q => match env[i]?, dKey q.1 with
  | some (.own (.d kvs)), some k => if kvs.length < 100000 then some (.nx (env.set i (.own (.d (putO kvs k p.1)))) q.2) else none
  | _, _ => none := rfl
theorem dSetD_ap (i : Nat) (fk fv : DE) (env : Env) (B : Bg) : dSetD i fk fv env B = (fk env B).bind fun p => (fv env p.2).bind fun q => match env[i]?, dKey p.1 with
  | some (.own (.d kvs)), some k => if kvs.length < 100000 then some (.nx (if (kvs.any fun p => decide (p.1 = k)) = true then env else env.set i (.own (.d (putO kvs k q.1)))) q.2) else none
  | _, _ => none := rfl
theorem dGet2_ap (f1 f2 f3 : DE) (env : Env) (B : Bg) : dGet2 f1 f2 f3 env B = (f1 env B).bind fun p => (f2 env p.2).bind fun q => (f3 env q.2).bind fun r => match p.1, dKey q.1 with
  | .dict ds, some k => some ((lookD ds k).getD r.1, r.2)
  | _, _ => none := rfl
theorem dSl_ap (f : DE) (lo hi : DO) (env : Env) (B : Bg) : dSl f lo hi env B = (f env B).bind fun p => (lo env p.2).bind fun l => (hi env l.2).bind fun h => (gSl p.1 l.1 h.1).map fun d => (d, h.2) := rfl
theorem oOf_ap (f : DE) (env : Env) (B : Bg) : oOf f env B = (f env B).bind fun p => match p.1 with
  | .int i => some (some i, p.2)
  | _ => none := rfl
theorem oNo_ap (env : Env) (B : Bg) : oNo  env B = some (none, B) := rfl
theorem dMeth_ap (g : PyData → List PyData → Option PyData) (f : DE) (as : List DAr) (env : Env) (B : Bg) : dMeth g f as env B = (f env B).bind fun p => (dArgs as env p.2).bind fun q => (arD q.1).bind fun ds => (g p.1 ds).map fun d => (d, q.2) := rfl
theorem dLstO_ap (as : List DAr) (env : Env) (B : Bg) : dLstO as env B = (dArgs as env B).bind fun p => (arD p.1).bind fun ds => if ds.length ≤ 100000 then some (.l ds, p.2) else none := rfl
theorem dNewD_ap (env : Env) (B : Bg) : dNewD  env B = some (.d [], B) := rfl
theorem dPeek_ap (i : Nat) (f : DE) (env : Env) (B : Bg) : dPeek i f env B = match env[i]? with
  | some (.own c) => (f (env.set i (.sh c.data)) B).bind fun p => if loneD p.1 = true then some p else none
  | _ => f env B := rfl
theorem dChain_ap (g1 g2 : PyData → PyData → Option PyData) (f1 f2 f3 : DE) (env : Env) (B : Bg) : dChain g1 g2 f1 f2 f3 env B = (f1 env B).bind fun p => (f2 env p.2).bind fun q => (g1 p.1 q.1).bind fun t => match t with
  | .bool true => (f3 env q.2).bind fun r => (g2 q.1 r.1).map fun d => (d, r.2)
  | .bool false => some (.bool false, q.2)
  | _ => none := rfl
theorem dExpr_ap (f : DE) (env : Env) (B : Bg) : dExpr f env B = (f env B).map fun p => .nx env p.2 := rfl
theorem dCBO_ap (g : List PyData → Option OC) (as : List DAr) (env : Env) (B : Bg) : dCBO g as env B = (dArgs as env B).bind fun p => (arD p.1).bind fun ds => (g ds).map fun d => (d, p.2) := rfl
theorem dFor_ap (fi : DI) (tg : DG) (g : DS) (env : Env) (B : Bg) : dFor fi tg g env B = (fi env B).bind fun p => forGo tg g p.1 env p.2 := rfl
theorem iS_ap (f : DE) (env : Env) (B : Bg) : iS f env B = (f env B).bind fun p => match p.1 with
  | .list ds => some (ds, p.2)
  | .tuple ds => some (ds, p.2)
  | _ => none := rfl
theorem iEnum_ap (as : List DAr) (env : Env) (B : Bg) : iEnum as env B = (dArgs as env B).bind fun p => match arD p.1 with
  | some [.list ds] => some (enD 0 ds, p.2)
  | some [.tuple ds] => some (enD 0 ds, p.2)
  | _ => none := rfl
theorem iZpA_ap (as : List DAr) (env : Env) (B : Bg) : iZpA as env B = (dArgs as env B).bind fun p => match arD p.1 with
  | some [.list ds, .list es] => some (zipD ds es, p.2)
  | some [.tuple ds, .tuple es] => some (zipD ds es, p.2)
  | _ => none := rfl
theorem iR1_ap (f : DE) (env : Env) (B : Bg) : iR1 f env B = (f env B).bind fun p => match p.1 with
  | .int n => if n ≤ 100000 ∧ -100000 ≤ n then some (rngD 0 n.toNat, p.2) else none
  | _ => none := rfl
theorem dLc_ap (fi : DI) (tg : DG) (c f : DE) (vs : List Nat) (env : Env) (B : Bg) : dLc fi tg c f vs env B = (fi env B).bind fun p => if p.1.length ≤ 100000 then (lcGo tg c f (wipeE env vs) p.1 p.2).map fun q => (.list q.1, q.2) else none := rfl
theorem dLcO_ap (fi : DI) (tg : DG) (c f : DE) (vs : List Nat) (env : Env) (B : Bg) : dLcO fi tg c f vs env B = (fi env B).bind fun p => if p.1.length ≤ 100000 then (lcGo tg c f (wipeE env vs) p.1 p.2).map fun q => (.l q.1, q.2) else none := rfl
theorem dSortSet_ap (f : DE) (env : Env) (B : Bg) : dSortSet f env B = (f env B).bind fun p => match p.1 with
  | .list ds => (keysD ds).bind fun ks => if ks.length ≤ 1000 ∧ (onceK ks).length < 64 then (sortK (onceK ks)).map fun es => (.l es, p.2) else none
  | _ => none := rfl
theorem dLRg_ap (f : DE) (env : Env) (B : Bg) : dLRg f env B = (f env B).bind fun p => match p.1 with
  | .int n => if n ≤ 100000 ∧ -100000 ≤ n then some (.l (rngD 0 n.toNat), p.2) else none
  | _ => none := rfl
theorem dFn_ap (n : Nat) (g : DS) (as : List Ar) (B : Bg) : dFn n g as B = (g (as.map Ar.sl ++ List.replicate (n - as.length) .no) B).bind fun o => match o with
  | .rt d B' => some (d, B')
  | .nx _ B' => some (.none, B')
  | .ro c B' => some (c.data, B')
  | _ => none := rfl
theorem dFnO_ap (n : Nat) (g : DS) (as : List Ar) (B : Bg) : dFnO n g as B = (g (as.map Ar.sl ++ List.replicate (n - as.length) .no) B).bind fun o => match o with
  | .ro c B' => some (c, B')
  | _ => none := rfl
theorem dBg_ap (i : Nat) (k : Int) (env : Env) (B : Bg) : dBg i k env B = match env[i]? with
  | some .bag => (bgGet B k).map fun d => (d, B)
  | _ => none := rfl
theorem dExt_ap (i : Nat) (f : DE) (env : Env) (B : Bg) : dExt i f env B = (f env B).bind fun p => match env[i]?, p.1 with
  | some (.own (.l ds)), .list es => if ds.length + es.length ≤ 100000 then some (.nx (env.set i (.own (.l (ds ++ es)))) p.2) else none
  | _, _ => none := rfl
theorem dIns_ap (i : Nat) (f1 f2 : DE) (env : Env) (B : Bg) : dIns i f1 f2 env B = (f1 env B).bind fun p => (f2 env p.2).bind fun q => match env[i]?, p.1 with
  | some (.own (.l ds)), .int n => if ds.length < 100000 ∧ 0 ≤ n ∧ n ≤ 100000 then some (.nx (env.set i (.own (.l (insD ds n.toNat q.1)))) q.2) else none
  | _, _ => none := rfl
theorem dSortVals_ap (f : DE) (env : Env) (B : Bg) : dSortVals f env B = (f env B).bind fun p => match p.1 with
  | .dict ds => (strsD ds).bind fun zs => if zs.length < 64 then some (.l ((sortStr zs).map PyData.str), p.2) else none
  | _ => none := rfl
theorem dTRg_ap (f : DE) (env : Env) (B : Bg) : dTRg f env B = (f env B).bind fun p => match p.1 with
  | .int n => if n ≤ 100000 ∧ -100000 ≤ n then some (.tuple (rngD 0 n.toNat), p.2) else none
  | _ => none := rfl
theorem dDictZip_ap (as : List DAr) (env : Env) (B : Bg) : dDictZip as env B = (dArgs as env B).bind fun p => match arD p.1 with
  | some [.list xs, .list ys] => if xs.length ≤ 100000 then (keysD xs).map fun ks => (.d (mergeO (ks.zip ys)), p.2) else none
  | _ => none := rfl
theorem iR2_ap (f1 f2 : DE) (env : Env) (B : Bg) : iR2 f1 f2 env B = (f1 env B).bind fun p => (f2 env p.2).bind fun q => match p.1, q.1 with
  | .int m, .int n => if n ≤ 100000 ∧ -100000 ≤ n ∧ m ≤ 100000 ∧ -100000 ≤ m then some (rngD m (n - m).toNat, q.2) else none
  | _, _ => none := rfl
theorem iTx_ap (f : DE) (env : Env) (B : Bg) : iTx f env B = (f env B).bind fun p => match p.1 with
  | .str x => some (signsD x, p.2)
  | _ => none := rfl
theorem iEnum2_ap (as : List DAr) (env : Env) (B : Bg) : iEnum2 as env B = (dArgs as env B).bind fun p => match arD p.1 with
  | some [.list ds, .int k0] => if -100000 ≤ k0 ∧ k0 ≤ 100000 then some (enI k0 ds, p.2) else none
  | _ => none := rfl
theorem dAug_ap (i : Nat) (g : Int → Int → Int) (f : DE) (env : Env) (B : Bg) : dAug i g f env B = match env[i]? with
  | some (.sh (.int x)) => (f env B).bind fun p => match p.1 with
    | .int y => some (.nx (env.set i (.sh (.int (g x y)))) p.2)
    | _ => none
  | _ => none := rfl
theorem dPar_ap (i j : Nat) (f1 f2 : DE) (env : Env) (B : Bg) : dPar i j f1 f2 env B = (f1 env B).bind fun p => (f2 env p.2).bind fun q => some (.nx ((env.set i (.sh p.1)).set j (.sh q.1)) q.2) := rfl
theorem dBreak_ap (env : Env) (B : Bg) : dBreak  env B = some (.bk env B) := rfl
theorem dCont_ap (env : Env) (B : Bg) : dCont  env B = some (.ct env B) := rfl
theorem gOne_ap (i : Nat) (d : PyData) (env : Env) : gOne i d env = some (env.set i (.sh d)) := rfl
theorem gsNil_ap (env : Env) : gsNil [] env = some env := rfl
theorem gsCons_ap (g : DG) (r : DGs) (d : PyData) (ds : List PyData) (env : Env) : gsCons g r (d :: ds) env = (g d env).bind fun e => r ds e := rfl
theorem gTup_ap (n : Nat) (r : DGs) (ds : List PyData) (env : Env) : gTup n r (.tuple ds) env = if ds.length = n then r ds env else none := rfl
theorem ite_run {α : Type} {c : Prop} [Decidable c] {a : Option α} (h : c) : (if c then a else none) = a := if_pos h
theorem dPeekO_ap (i : Nat) (f : DEO) (env : Env) (B : Bg) : dPeekO i f env B = match env[i]? with
  | some (.own c) => (f (env.set i (.sh c.data)) B).bind fun p => if loneO p.1 = true then some p else none
  | _ => f env B := rfl

theorem take_ok {B : Bg} {many : Int} (hB : BagOk B) (h0 : 0 < many) (h1 : many < 1073741824) : ∃ r B', F__law_take [.bag, .d (.int many)] B = some (.int r, B') ∧ 0 ≤ r ∧ r < many ∧ BagOk B' := by
  obtain ⟨z0, z1, z2, cs⟩ := B
  obtain ⟨p0, p1, p2, p3⟩ := hB
  simp only at p0 p1 p2 p3
  have intI : ∀ i : Int, gInt [.int i] = some (.int i) := fun _ => rfl
  -- behind the first if
  have second : ∀ (B1 : Bg) (env : Env), BagOk B1 → env[0]? = some .bag → env[1]? = some (.sh (.int many)) → env.length = 7 →
      ∃ r B', 0 ≤ r ∧ r < many ∧ BagOk B' ∧ (dSeq (dIfS (dBin gGt (dBg 0 0) (dC (.int 0)))
    (dSeq (dAsg (gOne 6) (dBin gMod (dCB gInt [.e (dBg 0 0)]) (dVar 1)))
    (dSeq (dBgSet 0 0 (dBin gDiv (dBg 0 0) (dVar 1)))
    (dRet (dVar 6))))
    dNil)
    (dSeq (dAsg (gOne 2) (dBin gMod (dCB gInt [.e (dBin gMulA (dBin gAdd (dBg 0 1) (dC (.int 1))) (dC (.int 39373)))]) (dC (.int 1000000007))))
    (dSeq (dAsg (gOne 3) (dBin gMod (dCB gInt [.e (dBin gMulA (dBin gMod (dCB gInt [.e (dBin gMulA (dVar 2) (dVar 2))]) (dC (.int 998244353))) (dC (.int 30011)))]) (dC (.int 998244353))))
    (dRet (dBin gMod (dCB gInt [.e (dBin gDiv (dVar 3) (dC (.int 7)))]) (dVar 1)))))) env B1 = some (.rt (.int r) B') := by
    rintro ⟨y0, y1, y2, ds⟩ env ⟨q0, q1, q2, q3⟩ e0 e1 len
    simp only at q0 q1 q2 q3
    by_cases hp : 0 < y0
    · have nn := Int.emod_nonneg y0 (show many ≠ 0 by omega)
      have lt := Int.emod_lt_of_pos y0 h0
      refine ⟨y0 % many, ⟨y0 / many, y1, y2, ds⟩, nn, lt, ⟨Int.ediv_nonneg q0 (by omega), q1, q2, q3⟩, ?_⟩
      refine ev_seqR (ev_if (t := true) (ev_bin (ev_bg e0 rfl) ev_c (by show some (PyData.bool (decide (0 < y0))) = _; rw [decide_eq_true hp])) (fun _ => ?_) fun z => nomatch z)
      refine ev_seq (ev_set (ev_bin (ev_cb1 (ev_bg e0 rfl) (intI _)) (ev_var e1) (gMod_int h0))) ?_
      have e0' : (env.set 6 (.sh (.int (y0 % many))))[0]? = some .bag := by rw [List.getElem?_set_ne (by decide)]; exact e0
      have e1' : (env.set 6 (.sh (.int (y0 % many))))[1]? = some (.sh (.int many)) := by rw [List.getElem?_set_ne (by decide)]; exact e1
      refine ev_seq (ev_bgset e0' (ev_bin (ev_bg e0' rfl) (ev_var e1') (gDiv_int h0 h1)) rfl) (ev_ret (ev_var ?_))
      rw [List.getElem?_set_self (by omega)]
    · refine ⟨(y1 + 1) * 39373 % 1000000007 * ((y1 + 1) * 39373 % 1000000007) % 998244353 * 30011 % 998244353 / 7 % many, ⟨y0, y1, y2, ds⟩, Int.emod_nonneg _ (show many ≠ 0 by omega), Int.emod_lt_of_pos _ h0, ⟨q0, q1, q2, q3⟩, ?_⟩
      refine ev_seq (ev_if (t := false) (ev_bin (ev_bg e0 rfl) ev_c (by show some (PyData.bool (decide (0 < y0))) = _; rw [decide_eq_false hp])) (fun z => nomatch z) fun _ => rfl) ?_
      refine ev_seq (ev_set (ev_bin (ev_cb1 (ev_bin (ev_bin (ev_bg e0 rfl) ev_c rfl) ev_c (gMulA_int (.inr ⟨by decide, by decide⟩))) (intI _)) ev_c (gMod_int (by decide)))) ?_
      have b1 := Int.emod_nonneg ((y1 + 1) * 39373) (show (1000000007 : Int) ≠ 0 by decide)
      have b2 := Int.emod_lt_of_pos ((y1 + 1) * 39373) (show (0 : Int) < 1000000007 by decide)
      generalize hb : (y1 + 1) * 39373 % 1000000007 = beg at b1 b2 ⊢
      have v2 : (env.set 2 (.sh (.int beg)))[2]? = some (.sh (.int beg)) := List.getElem?_set_self (by omega)
      refine ev_seq (ev_set (ev_bin (ev_cb1 (ev_bin (ev_bin (ev_cb1 (ev_bin (ev_var v2) (ev_var v2) (gMulA_int (.inl ⟨by omega, by omega⟩))) (intI _)) ev_c (gMod_int (by decide))) ev_c (gMulA_int (.inr ⟨by decide, by decide⟩))) (intI _)) ev_c (gMod_int (by decide)))) ?_
      generalize beg * beg % 998244353 * 30011 % 998244353 = sec
      have v3 : ((env.set 2 (.sh (.int beg))).set 3 (.sh (.int sec)))[3]? = some (.sh (.int sec)) := List.getElem?_set_self (by rw [List.length_set]; omega)
      have v1 : ((env.set 2 (.sh (.int beg))).set 3 (.sh (.int sec)))[1]? = some (.sh (.int many)) := by
        rw [List.getElem?_set_ne (by decide), List.getElem?_set_ne (by decide)]
        exact e1
      exact ev_ret (ev_bin (ev_cb1 (ev_bin (ev_var v3) ev_c (gDiv_int (by decide) (by decide))) (intI _)) (ev_var v1) (gMod_int h0))
  -- the first if
  have first : ∃ (B1 : Bg) (env : Env), BagOk B1 ∧ env[0]? = some .bag ∧ env[1]? = some (.sh (.int many)) ∧ env.length = 7 ∧ (dIfS (dBin gEqA (dBg 0 0) (dC (.int 0)))
    (dSeq (dAsg (gOne 4) (dC (.int 0)))
    (dSeq (dIfS (dBin gLt (dBg 0 2) (dCB gLenA [.e (dBg 0 3)]))
    (dAsg (gOne 4) (dBin gIxA (dBg 0 3) (dBg 0 2)))
    dNil)
    (dSeq (dBgAug 0 2 1)
    (dSeq (dIfS (dBin gGe (dVar 4) (dBin gPow (dC (.int 10)) (dC (.int 18))))
    (dBgSet 0 0 (dVar 4))
    dNil)
    (dSeq (dAsg (gOne 5) (dBin gAdd (dBin gAdd (dBin gMulA (dBg 0 1) (dC (.int 48271))) (dBin gMod (dCB gInt [.e (dVar 4)]) (dC (.int 2147483647)))) (dBin gMulA (dC (.int 7919)) (dBg 0 2))))
    (dBgSet 0 1 (dBin gMod (dCB gInt [.e (dVar 5)]) (dC (.int 2147483647)))))))))
    dNil) [.bag, .sh (.int many), .no, .no, .no, .no, .no] ⟨z0, z1, z2, cs⟩ = some (.nx env B1) := by
    by_cases hz : z0 = 0
    · subst hz
      -- the cell
      have cell : ∃ c, 0 ≤ c ∧ dIfS (dBin gLt (dBg 0 2) (dCB gLenA [.e (dBg 0 3)])) (dAsg (gOne 4) (dBin gIxA (dBg 0 3) (dBg 0 2))) dNil [.bag, .sh (.int many), .no, .no, .sh (.int 0), .no, .no] ⟨0, z1, z2, cs⟩ = some (.nx [.bag, .sh (.int many), .no, .no, .sh (.int c), .no, .no] ⟨0, z1, z2, cs⟩) := by
        have test : dBin gLt (dBg 0 2) (dCB gLenA [.e (dBg 0 3)]) [.bag, .sh (.int many), .no, .no, .sh (.int 0), .no, .no] ⟨0, z1, z2, cs⟩ = some (.bool (decide (z2 < cs.length)), ⟨0, z1, z2, cs⟩) := by
          refine ev_bin (ev_bg rfl rfl) (ev_cb1 (ev_bg rfl rfl) (d := .int cs.length) ?_) rfl
          show some (PyData.int ((cs.map PyData.int).length : Int)) = _
          rw [List.length_map]
        by_cases hl : z2 < cs.length
        · obtain ⟨c, mc, hc⟩ := ints_at p2 hl
          refine ⟨c, p3 c mc, ev_if test (fun _ => ?_) fun z => ?_⟩
          · exact ev_set (ev_bin (ev_bg rfl rfl) (ev_bg rfl rfl) (gIxA_list hc))
          · rw [decide_eq_true hl] at z
            cases z
        · refine ⟨0, Int.le_refl _, ev_if test (fun z => ?_) fun _ => rfl⟩
          rw [decide_eq_false hl] at z
          cases z
      obtain ⟨c, hc, cell⟩ := cell
      have big : ∃ y0, 0 ≤ y0 ∧ dIfS (dBin gGe (dVar 4) (dBin gPow (dC (.int 10)) (dC (.int 18)))) (dBgSet 0 0 (dVar 4)) dNil [.bag, .sh (.int many), .no, .no, .sh (.int c), .no, .no] ⟨0, z1, z2 + 1, cs⟩ = some (.nx [.bag, .sh (.int many), .no, .no, .sh (.int c), .no, .no] ⟨y0, z1, z2 + 1, cs⟩) := by
        have test : dBin gGe (dVar 4) (dBin gPow (dC (.int 10)) (dC (.int 18))) [.bag, .sh (.int many), .no, .no, .sh (.int c), .no, .no] ⟨0, z1, z2 + 1, cs⟩ = some (.bool (decide (1000000000000000000 ≤ c)), ⟨0, z1, z2 + 1, cs⟩) := ev_bin (ev_var rfl) (ev_bin ev_c ev_c gPow_18) rfl
        by_cases hb : 1000000000000000000 ≤ c
        · refine ⟨c, hc, ev_if test (fun _ => ev_bgset rfl (ev_var rfl) rfl) fun z => ?_⟩
          rw [decide_eq_true hb] at z
          cases z
        · refine ⟨0, Int.le_refl _, ev_if test (fun z => ?_) fun _ => rfl⟩
          rw [decide_eq_false hb] at z
          cases z
      obtain ⟨y0, hy, big⟩ := big
      refine ⟨⟨y0, (z1 * 48271 + c % 2147483647 + 7919 * (z2 + 1)) % 2147483647, z2 + 1, cs⟩, [.bag, .sh (.int many), .no, .no, .sh (.int c), .sh (.int (z1 * 48271 + c % 2147483647 + 7919 * (z2 + 1))), .no], ⟨hy, Int.emod_nonneg _ (by decide), by show 0 ≤ z2 + 1; omega, p3⟩, rfl, rfl, rfl, ?_⟩
      refine ev_if (t := true) (ev_bin (ev_bg rfl rfl) ev_c rfl) (fun _ => ?_) fun z => nomatch z
      refine ev_seq (ev_set ev_c) (ev_seq cell (ev_seq (ev_bgaug rfl rfl rfl) (ev_seq big (ev_seq (ev_set (B1 := ⟨y0, z1, z2 + 1, cs⟩) (d := .int (z1 * 48271 + c % 2147483647 + 7919 * (z2 + 1))) ?_) ?_))))
      case refine_2 => exact ev_bgset (B1 := ⟨y0, z1, z2 + 1, cs⟩) rfl (ev_bin (ev_cb1 (ev_var rfl) (intI _)) ev_c (gMod_int (by decide))) rfl
      exact ev_bin (ev_bin (ev_bin (ev_bg rfl rfl) ev_c (gMulA_int (.inr ⟨by decide, by decide⟩))) (ev_bin (ev_cb1 (ev_var rfl) (intI _)) ev_c (gMod_int (by decide))) rfl) (ev_bin ev_c (ev_bg rfl rfl) (gMulA_int (.inl ⟨by decide, by decide⟩))) rfl
    · refine ⟨⟨z0, z1, z2, cs⟩, _, ⟨p0, p1, p2, p3⟩, rfl, rfl, rfl, ev_if (t := false) (ev_bin (ev_bg rfl rfl) ev_c ?_) (fun z => nomatch z) fun _ => rfl⟩
      show some (PyData.bool (decide (z0 = 0))) = _
      rw [decide_eq_false hz]
  obtain ⟨B1, env, ok1, e0, e1, len, run⟩ := first
  obtain ⟨r, B', r0, r1, ok2, run2⟩ := second B1 env ok1 e0 e1 len
  refine ⟨r, B', ?_, r0, r1, ok2⟩
  show ((d__law_take [.bag, .sh (.int many), .no, .no, .no, .no, .no] ⟨z0, z1, z2, cs⟩).bind _) = _
  rw [show d__law_take [.bag, .sh (.int many), .no, .no, .no, .no, .no] ⟨z0, z1, z2, cs⟩ = some (.rt (.int r) B') from ev_seq run run2]
  rfl

theorem call_take {env : Env} {B : Bg} {f : DE} {many : Int} {n : Nat} (hb : env[n]? = some .bag) (hf : f env B = some (.int many, B)) (ok : BagOk B) (h0 : 0 < many) (h1 : many < 1073741824) :
    ∃ r B', dCall 2 F__law_take [.bag n, .e f] env B = some (.int r, B') ∧ 0 ≤ r ∧ r < many ∧ BagOk B' := by
  obtain ⟨r, B', e, r0, r1, ok'⟩ := take_ok ok h0 h1
  refine ⟨r, B', ?_, r0, r1, ok'⟩
  exact ev_call (ev_argB hb (ev_argE hf rfl)) rfl e
theorem mixed_go {xs : List PyData} : ∀ (ds acc : List PyData) (t : Sl) (B : Bg), BagOk B → acc.length + ds.length ≤ 90000 →
    ∃ es t' B', forGo (gOne 3) (dIns 2 (dCall 2 F__law_take [.bag 0, .e (dBin gAdd (dLenO 2) (dC (.int 1)))]) (dVar 3)) ds [.bag, .sh (.list xs), .own (.l acc), t] B = some (.nx [.bag, .sh (.list xs), .own (.l es), t'] B') ∧ es.Perm (acc ++ ds) ∧ BagOk B'
  | [], acc, t, B, ok, _ => ⟨acc, t, B, rfl, by rw [List.append_nil], ok⟩
  | d :: ds, acc, t, B, ok, h => by
    rw [List.length_cons] at h
    have hf : dBin gAdd (dLenO 2) (dC (.int 1)) [.bag, .sh (.list xs), .own (.l acc), .sh d] B = some (.int (acc.length + 1), B) := ev_bin (d1 := .int acc.length) rfl ev_c rfl
    obtain ⟨r, B1, e, r0, r1, ok1⟩ := call_take (env := [.bag, .sh (.list xs), .own (.l acc), .sh d]) (n := 0) rfl hf ok (by omega) (by omega)
    obtain ⟨k, rfl⟩ : ∃ k : Nat, r = k := ⟨r.toNat, by omega⟩
    have step : dIns 2 (dCall 2 F__law_take [.bag 0, .e (dBin gAdd (dLenO 2) (dC (.int 1)))]) (dVar 3) [.bag, .sh (.list xs), .own (.l acc), .sh d] B = some (.nx [.bag, .sh (.list xs), .own (.l (insD acc k d)), .sh d] B1) := by
      unfold dIns
      rw [e]
      show (if acc.length < 100000 ∧ 0 ≤ (k : Int) ∧ (k : Int) ≤ 100000 then _ else none) = _
      rw [if_pos ⟨by omega, by omega, by omega⟩]
      rfl
    have len : (insD acc k d).length = acc.length + 1 := by
      unfold insD
      simp only [List.length_append, List.length_take, List.length_drop, List.length_cons, List.length_nil]
      omega
    obtain ⟨es, t', B', run, perm, ok'⟩ := mixed_go ds (insD acc k d) (.sh d) B1 ok1 (by omega)
    refine ⟨es, t', B', ?_, perm.trans ?_, ok'⟩
    · show ((dIns 2 (dCall 2 F__law_take [.bag 0, .e (dBin gAdd (dLenO 2) (dC (.int 1)))]) (dVar 3) [.bag, .sh (.list xs), .own (.l acc), .sh d] B).bind _) = _
      rw [step]
      exact run
    · have p1 : (insD acc k d).Perm (d :: acc) := by
        unfold insD
        have z := (List.perm_middle (a := d) (l₁ := acc.take k) (l₂ := acc.drop k))
        rw [List.take_append_drop] at z
        simpa using z
      have p2 := p1.append_right ds
      refine p2.trans ?_
      exact List.perm_middle.symm
theorem mixed_ok {B : Bg} {ds : List PyData} (ok : BagOk B) (h : ds.length ≤ 90000) : ∃ es B', F__law_mixed [.bag, .d (.list ds)] B = some (.l es, B') ∧ es.Perm ds ∧ BagOk B' := by
  obtain ⟨es, t', B', run, perm, ok'⟩ := mixed_go (xs := ds) ds [] .no B ok (by simpa using h)
  refine ⟨es, B', ?_, by simpa using perm, ok'⟩
  have all : d__law_mixed [.bag, .sh (.list ds), .no, .no] B = some (.ro (.l es) B') := by
    refine ev_seq (env1 := [.bag, .sh (.list ds), .own (.l []), .no]) (B1 := B) rfl (ev_seq (env1 := [.bag, .sh (.list ds), .own (.l es), t']) (B1 := B') ?_ rfl)
    show forGo (gOne 3) _ ds [.bag, .sh (.list ds), .own (.l []), .no] B = _
    exact run
  show ((d__law_mixed [.bag, .sh (.list ds), .no, .no] B).bind _) = _
  rw [all]
  rfl

theorem perm_enc {α β : Type} {f : α → β} {l1 l2 : List β} (p : l1.Perm l2) : ∀ xs : List α, l2 = xs.map f → ∃ ys : List α, l1 = ys.map f ∧ ys.Perm xs := by
  induction p with
  | nil =>
    intro xs e
    cases xs with
    | nil => exact ⟨[], rfl, .nil⟩
    | cons _ _ => cases e
  | cons x p ih =>
    intro xs e
    cases xs with
    | nil => cases e
    | cons a xs =>
      rw [List.map_cons] at e
      injection e with e1 e2
      obtain ⟨ys, rfl, q⟩ := ih xs e2
      exact ⟨a :: ys, by rw [List.map_cons, e1], q.cons a⟩
  | swap x y l =>
    intro xs e
    cases xs with
    | nil => cases e
    | cons a xs =>
      cases xs with
      | nil =>
        rw [List.map_cons] at e
        injection e with e1 e2
        cases e2
      | cons c xs =>
        rw [List.map_cons, List.map_cons] at e
        injection e with e1 e2
        injection e2 with e2 e3
        exact ⟨c :: a :: xs, by rw [List.map_cons, List.map_cons, e1, e2, e3], .swap a c xs⟩
  | trans _ _ ih1 ih2 =>
    intro xs e
    obtain ⟨ys, e1, q1⟩ := ih2 xs e
    obtain ⟨zs, e2, q2⟩ := ih1 ys e1
    exact ⟨zs, e2, q2.trans q1⟩
theorem mixed_in {α : Type} {B : Bg} {enc : α → PyData} {xs : List α} (ok : BagOk B) (h : xs.length ≤ 90000) : ∃ (ys : List α) (B' : Bg), F__law_mixed [.bag, .d (.list (xs.map enc))] B = some (.l (ys.map enc), B') ∧ ys.Perm xs ∧ BagOk B' := by
  obtain ⟨es, B', e, perm, ok'⟩ := mixed_ok (ds := xs.map enc) ok (by rw [List.length_map]; exact h)
  obtain ⟨ys, rfl, q⟩ := perm_enc perm xs rfl
  exact ⟨ys, B', e, q, ok'⟩

/-! FT: data that can be shown and compared -/
structure Fit (k n : Nat) (d : PyData) : Prop where
  sh : d.showable = true
  lay : d.canLay0 = true
  dep : d.depth ≤ k
  len : d.shown.length ≤ n
theorem Fit.mono {k n k' n' : Nat} {d : PyData} (h : Fit k n d) (hk : k ≤ k') (hn : n ≤ n') : Fit k' n' d := ⟨h.sh, h.lay, Nat.le_trans h.dep hk, Nat.le_trans h.len hn⟩
def NmOk (s : Str) : Prop := PyData.strOk s = true ∧ s.length ≤ 8
theorem fit_str {s : Str} (h : NmOk s) : Fit 0 82 (.str s) := by
  refine ⟨by simp [PyData.showable], by simpa [PyData.canLay0] using h.1, by simp [PyData.depth], ?_⟩
  have h1 := h.1
  have h2 := h.2
  have z := PySem.StrLaws.reprText_len s fun c hc => by
    unfold PyData.strOk at h1
    rw [Array.all_eq_true'] at h1
    have := h1 c (by simpa using hc)
    simp at this
    omega
  show (reprText s).length ≤ 82
  omega
theorem fit_bool (b : Bool) : Fit 0 82 (.bool b) := ⟨by simp [PyData.showable], by simp [PyData.canLay0], by simp [PyData.depth], by cases b <;> decide +kernel⟩
theorem fitAll {k n : Nat} : ∀ {ds : List PyData}, (∀ d ∈ ds, Fit k n d) → PyData.showableAll ds = true ∧ PyData.canLayAll0 ds = true ∧ PyData.depthAll ds ≤ k ∧ piled (PyData.shownAll ds) ≤ ds.length * (n + 2) ∧ (PyData.shownAll ds).length = ds.length
  | [], _ => ⟨rfl, rfl, Nat.zero_le _, Nat.zero_le _, rfl⟩
  | d :: ds, h => by
    obtain ⟨h1, h2, h3, h4, h5⟩ := fitAll (fun e he => h e (List.mem_cons_of_mem _ he))
    have hd := h d List.mem_cons_self
    refine ⟨?_, ?_, ?_, ?_, ?_⟩
    · simp only [PyData.showableAll, hd.sh, h1, Bool.and_self]
    · simp only [PyData.canLayAll0, hd.lay, h2, Bool.and_self]
    · simp only [PyData.depthAll]
      have := hd.dep
      omega
    · simp only [PyData.shownAll]
      rw [piled_cons, List.length_cons, Nat.add_mul]
      have := hd.len
      omega
    · simp only [PyData.shownAll]
      rw [List.length_cons, h5, List.length_cons]
theorem textFrom_le : ∀ (ts : List Str) (k : Nat) (acc : Str), (textFrom k acc ts).length ≤ acc.length + piled ts
  | [], k, acc => by show acc.length ≤ _; omega
  | t :: ts, k, acc => by
    show (textFrom (k + 1) (acc ++ (if k > 0 then ", " else "" : String) ++ t) ts).length ≤ _
    have ih := textFrom_le ts (k + 1) (acc ++ (if k > 0 then ", " else "" : String) ++ t)
    have e : (acc ++ (if k > 0 then ", " else "" : String) ++ t).length = acc.length + (if k > 0 then 2 else 0) + t.length := by
      rw [strLen_append, strLen_append]
      split <;> rfl
    rw [e] at ih
    have two : (if k > 0 then 2 else 0 : Nat) ≤ 2 := by split <;> decide
    rw [piled_cons]
    omega
theorem tupleText_le (ts : List Str) : (tupleText ts).length ≤ piled ts + 3 := by
  unfold tupleText
  rw [strLen_append, strLen_append]
  have e1 : ((("(" : String) : Str)).length = 1 := by decide +kernel
  have e3 : (((if ts.length == 1 then ",)" else ")" : String) : Str)).length ≤ 2 := by split <;> decide +kernel
  rw [e1]
  by_cases h : ts = []
  · subst h
    have : (Str.join ", " ([] : List Str)).length = 0 := by decide +kernel
    omega
  · have := join_length_add ts h
    omega
theorem fit_tup {k n : Nat} (m : Nat) {ds : List PyData} (h : ∀ d ∈ ds, Fit k n d) (hm : ds.length ≤ m) : Fit (k + 1) (m * (n + 2) + 3) (.tuple ds) := by
  obtain ⟨h1, h2, h3, h4, h5⟩ := fitAll h
  have h6 := Nat.mul_le_mul_right (n + 2) hm
  refine ⟨by simpa only [PyData.showable] using h1, by simpa only [PyData.canLay0] using h2, by simp only [PyData.depth]; omega, ?_⟩
  simp only [PyData.shown]
  have := tupleText_le (PyData.shownAll ds)
  omega
theorem fit_lst {k n : Nat} (m : Nat) {ds : List PyData} (h : ∀ d ∈ ds, Fit k n d) (hm : ds.length ≤ m) : Fit (k + 1) (m * (n + 2) + 3) (.list ds) := by
  obtain ⟨h1, h2, h3, h4, h5⟩ := fitAll h
  have h6 := Nat.mul_le_mul_right (n + 2) hm
  refine ⟨by simpa only [PyData.showable] using h1, by simpa only [PyData.canLay0] using h2, by simp only [PyData.depth]; omega, ?_⟩
  simp only [PyData.shown]
  unfold listText
  rw [strLen_append]
  have := textFrom_le (PyData.shownAll ds) 0 "["
  have e1 : ((("[" : String) : Str)).length = 1 := by decide +kernel
  have e2 : ((("]" : String) : Str)).length = 1 := by decide +kernel
  rw [e1] at this
  rw [e2]
  omega
theorem reprOk_fit {k n : Nat} {d : PyData} (h : Fit k n d) (hk : k ≤ 60) (hn : n ≤ 16777216) : reprOk d = true := by
  unfold reprOk
  rw [h.sh, PyData.hasDict_of_canLay d h.lay, h.lay]
  have h1 := h.dep
  have h2 := h.len
  rw [decide_eq_true (show d.depth ≤ 60 by omega), decide_eq_true (show d.shown.length ≤ sizeLine by show _ ≤ 2 ^ 24; omega)]
  rfl
theorem repr_fit {k n : Nat} {d : PyData} (hs : isSeq d = true) (h : Fit k n d) (hk : k ≤ 60) (hn : n ≤ 16777216) : gRepr [d] = some (.str d.shown) := by
  show (if _ then _ else _) = _
  rw [hs, reprOk_fit h hk hn]
  rfl
theorem eqA_self {k n : Nat} {d : PyData} (hs : isSeq d = true) (h : Fit k n d) (hk : k ≤ 60) : gEqA d d = some (.bool true) := by
  have sp : SeqAt.shaped d = true := by
    unfold SeqAt.shaped
    have := h.dep
    rw [h.lay, decide_eq_true (show d.depth ≤ 64 by omega)]
    rfl
  have e : gEq d d = some (.bool true) := by
    unfold gEq
    rw [sp]
    show some (PyData.bool (PyData.eqv d d)) = _
    rw [PySem.SeqAt.eqv_refl d h.lay]
  unfold gEqA gOr
  cases d with
  | list xs => exact e
  | tuple xs => exact e
  | _ => cases hs

theorem alike_ok {k n : Nat} {d : PyData} (hs : isSeq d = true) (h : Fit k n d) (hk : k ≤ 60) (hn : n ≤ 16777216) (B : Bg) : F__law_alike [.d d, .d d] B = some (.bool true, B) := by
  simp only [F__law_alike, d__law_alike, dSeq_ap, dIfS_ap, dAsg_ap, dRet_ap, dRetO_ap, dRetV_ap, dNil_ap, dNever_ap, dVar_ap, dC_ap, dBin_ap, dUn_ap, dAnd_ap, dOr_ap, dIf_ap, dCB_ap, dCall_ap, dPush_ap, dParX_ap, dParX3_ap, xD_ap, xO_ap, dCallO_ap, dFzF_ap, dFzE_ap, dFrz_ap, dIxO_ap, dLenO_ap, dOwn_ap, dOwnD_ap, dOwnE_ap, dPutO_ap, dSetD_ap, dGet2_ap, dSl_ap, oOf_ap, oNo_ap, dMeth_ap, dLstO_ap, dNewD_ap, dPeek_ap, dPeekO_ap, dChain_ap, dExpr_ap, dCBO_ap, iS_ap, iEnum_ap, iZpA_ap, iR1_ap, dSortSet_ap, dLRg_ap, dFn_ap, dFnO_ap, dIfO_ap, dBg_ap, dExt_ap, dIns_ap, dSortVals_ap, dTRg_ap, dDictZip_ap, iR2_ap, iTx_ap, iEnum2_ap, dAug_ap, dPar_ap, dBreak_ap, dCont_ap, dFor_ap, dLc_ap, dLcO_ap, dArgs, DAr.ev, arD, gOne_ap, gsNil_ap, gsCons_ap, gTup_ap, OC.data, Ar.sl, wipeE, List.map_cons, List.map_nil, List.replicate_succ, List.replicate_zero, List.cons_append, List.nil_append, List.length_cons, List.length_nil, Option.bind_some, Option.map_some, Option.bind_none, Option.map_none, List.getElem?_cons_zero, List.getElem?_cons_succ, List.set_cons_zero, List.set_cons_succ, Nat.reduceAdd, Nat.reduceSub, Nat.reduceLeDiff, Nat.reduceEqDiff, if_true, if_false, reduceIte, ite_true, ite_false, Nat.reduceMul, Int.reduceNeg, ite_run, bAnd_t, bAnd_f, bAnd_b, bOr_t, bOr_f, bOr_b, bIf_b, Bool.false_eq_true, Bool.not_true, Bool.not_false, Bool.true_and, Bool.false_and, Bool.and_true, Bool.and_false, Bool.true_or, Bool.false_or, Bool.or_true, Bool.or_false, eqA_self hs h hk, repr_fit hs h hk hn, eqA_str, beq_self_eq_true]

def Ends {α : Type} (P : α → Prop) (o : Option (α × Bg)) : Prop := ∃ a B', o = some (a, B') ∧ BagOk B' ∧ P a
theorem Ends.mk {α : Type} {P : α → Prop} {a : α} {B : Bg} (ok : BagOk B) (h : P a) : Ends P (some (a, B)) := ⟨a, B, rfl, ok, h⟩
def NxB (P : Env → Prop) (o : Option Out) : Prop := ∃ env' B', o = some (.nx env' B') ∧ P env' ∧ BagOk B'
theorem NxB.mk {P : Env → Prop} {env : Env} {B : Bg} (ok : BagOk B) (h : P env) : NxB P (some (.nx env B)) := ⟨env, B, rfl, h, ok⟩
theorem Ends.for {α : Type} {P : α → Prop} {tg : DG} {g : DS} {ds : List PyData} {env : Env} {B : Bg} {K : Out → Option (α × Bg)} (R : Nat → Env → Prop) (r0 : R 0 env) (ok : BagOk B)
    (h : ∀ k d env B, d ∈ ds → k < ds.length → R k env → BagOk B → ∃ e1, tg d env = some e1 ∧ NxB (R (k + 1)) (g e1 B))
    (k : ∀ env' B', R ds.length env' → BagOk B' → Ends P (K (.nx env' B'))) : Ends P ((forGo tg g ds env B).bind K) := by
  have go : ∀ (es : List PyData) (k : Nat) (env : Env) (B : Bg), k + es.length = ds.length → (∀ d ∈ es, d ∈ ds) → R k env → BagOk B → ∃ env' B', forGo tg g es env B = some (.nx env' B') ∧ R ds.length env' ∧ BagOk B' := by
    intro es
    induction es with
    | nil =>
      intro k env B hk _ r ok
      exact ⟨env, B, rfl, by rw [← hk]; exact r, ok⟩
    | cons d es ih =>
      intro k env B hk hm r ok
      rw [List.length_cons] at hk
      obtain ⟨e1, h1, env1, B1, h2, r1, ok1⟩ := h k d env B (hm d List.mem_cons_self) (by omega) r ok
      obtain ⟨env', B', h3, r', ok'⟩ := ih (k + 1) env1 B1 (by omega) (fun e he => hm e (List.mem_cons_of_mem _ he)) r1 ok1
      refine ⟨env', B', ?_, r', ok'⟩
      show ((tg d env).bind _) = _
      rw [h1, Option.bind_some, h2]
      exact h3
  obtain ⟨env', B', run, r, ok'⟩ := go ds 0 env B (by omega) (fun _ h => h) r0 ok
  rw [run]
  exact k env' B' r ok'
theorem NxB.for {P : Env → Prop} {tg : DG} {g : DS} {ds : List PyData} {env : Env} {B : Bg} (R : Env → Prop) (r0 : R env) (ok : BagOk B)
    (h : ∀ d env B, d ∈ ds → R env → BagOk B → ∃ e1, tg d env = some e1 ∧ NxB R (g e1 B))
    (k : ∀ env', R env' → P env') : NxB P (forGo tg g ds env B) := by
  obtain ⟨env', B', run, r, ok'⟩ := forGo_bag (tg := tg) (g := g) (fun _ => R) ds 0 env B r0 ok fun k d env B hd r ok => by
    obtain ⟨e1, h1, env', B', h2, h3, h4⟩ := h d env B hd r ok
    exact ⟨e1, env', B', h1, h2, h3, h4⟩
  rw [run]
  exact .mk ok' (k env' r)
theorem bag0_ok (ns : List Int) : BagOk (bag0 ns) := ⟨Int.le_refl _, (by decide : (0 : Int) ≤ 1234567891), Int.le_refl _, fun c hc => by
  obtain ⟨n, _, rfl⟩ := List.mem_map.mp hc
  unfold absI
  split <;> omega⟩


def ruD (u : Str × Str) : PyData := .tuple [.str u.1, .str u.2]
def rulesAll : List (Str × Str) := [("both", "never"), ("both", "next"), ("both", "once"), ("drawn", "never"), ("drawn", "next"), ("drawn", "once"), ("entered", "never"), ("entered", "next"), ("entered", "once"), ("innocent", "never"), ("innocent", "next"), ("innocent", "once")]
def rulesRaw : List (Str × Str) := [("drawn", "never"), ("drawn", "next"), ("drawn", "once"), ("entered", "never"), ("entered", "next"), ("entered", "once"), ("innocent", "never"), ("innocent", "next"), ("innocent", "once"), ("both", "never"), ("both", "next"), ("both", "once")]
def ruLe (a b : Str × Str) : Bool := leD (ruD a) (ruD b)
theorem ruLe_tot : PySem.W.TotalLe ruLe where
  trans a b c h1 h2 := (PySem.W.sortLe_total (PyProof.Rows.listOrd PyProof.Rows.itemOrd) false (fun d : PyData => PySem.W.keyToks d)).trans (ruD a) (ruD b) (ruD c) h1 h2
  total a b := (PySem.W.sortLe_total (PyProof.Rows.listOrd PyProof.Rows.itemOrd) false (fun d : PyData => PySem.W.keyToks d)).total (ruD a) (ruD b)
theorem sorted_rules : rulesRaw.mergeSort ruLe = rulesAll := by
  refine List.Perm.eq_of_pairwise (le := fun a b => ruLe a b = true) ?_ (PySem.W.sort_pairwise ruLe_tot _) (by decide +kernel) ((List.mergeSort_perm _ _).trans (by decide +kernel))
  have h : ∀ a ∈ rulesAll, ∀ b ∈ rulesAll, ruLe a b = true → ruLe b a = true → a = b := by decide +kernel
  intro a b ha hb
  have p : rulesRaw.Perm rulesAll := by decide +kernel
  exact h a (p.mem_iff.mp ((List.mergeSort_perm _ _).mem_iff.mp ha)) b hb
theorem raw_ok (B : Bg) : dLc2 (iS (dC (.tuple (c_PRIORS.map .str)))) (gOne 0) dYes (iS (dC (.tuple (c_FORGED.map .str)))) (gOne 1) dYes (dCB gTuple [.e (dVar 0), .e (dVar 1)]) [0, 1] [1] [.no, .no] B = some (.list (rulesRaw.map ruD), B) := rfl
theorem rules_ok (B : Bg) : F_rules [] B = some (.l (rulesAll.map ruD), B) := by
  simp only [F_rules, d_rules, dSeq_ap, dIfS_ap, dAsg_ap, dRet_ap, dRetO_ap, dRetV_ap, dNil_ap, dNever_ap, dVar_ap, dC_ap, dBin_ap, dUn_ap, dAnd_ap, dOr_ap, dIf_ap, dCB_ap, dCall_ap, dPush_ap, dParX_ap, dParX3_ap, xD_ap, xO_ap, dCallO_ap, dFzF_ap, dFzE_ap, dFrz_ap, dIxO_ap, dLenO_ap, dOwn_ap, dOwnD_ap, dOwnE_ap, dPutO_ap, dSetD_ap, dGet2_ap, dSl_ap, oOf_ap, oNo_ap, dMeth_ap, dLstO_ap, dNewD_ap, dPeek_ap, dPeekO_ap, dChain_ap, dExpr_ap, dCBO_ap, iS_ap, iEnum_ap, iZpA_ap, iR1_ap, dSortSet_ap, dLRg_ap, dFn_ap, dFnO_ap, dIfO_ap, dBg_ap, dExt_ap, dIns_ap, dSortVals_ap, dTRg_ap, dDictZip_ap, iR2_ap, iTx_ap, iEnum2_ap, dAug_ap, dPar_ap, dBreak_ap, dCont_ap, dFor_ap, dLc_ap, dLcO_ap, dArgs, DAr.ev, arD, gOne_ap, gsNil_ap, gsCons_ap, gTup_ap, OC.data, Ar.sl, wipeE, List.map_cons, List.map_nil, List.replicate_succ, List.replicate_zero, List.cons_append, List.nil_append, List.length_cons, List.length_nil, Option.bind_some, Option.map_some, Option.bind_none, Option.map_none, List.getElem?_cons_zero, List.getElem?_cons_succ, List.set_cons_zero, List.set_cons_succ, Nat.reduceAdd, Nat.reduceSub, Nat.reduceLeDiff, Nat.reduceEqDiff, if_true, if_false, reduceIte, ite_true, ite_false, Nat.reduceMul, Int.reduceNeg, ite_run, bAnd_t, bAnd_f, bAnd_b, bOr_t, bOr_f, bOr_b, bIf_b, Bool.false_eq_true, Bool.not_true, Bool.not_false, Bool.true_and, Bool.false_and, Bool.and_true, Bool.and_false, Bool.true_or, Bool.false_or, Bool.or_true, Bool.or_false]
  rw [raw_ok]
  have e : oSorted [.list (rulesRaw.map ruD)] = some (.l (rulesAll.map ruD)) := by
    show (if _ then _ else _) = _
    rw [show sortOk (rulesRaw.map ruD) = true by decide +kernel, Bool.and_true, if_pos (by decide), ← List.map_mergeSort (r := ruLe) (s := leD) (f := ruD) (l := rulesRaw) (fun _ _ _ _ => rfl), sorted_rules]
  simp only [dSeq_ap, dIfS_ap, dAsg_ap, dRet_ap, dRetO_ap, dRetV_ap, dNil_ap, dNever_ap, dVar_ap, dC_ap, dBin_ap, dUn_ap, dAnd_ap, dOr_ap, dIf_ap, dCB_ap, dCall_ap, dPush_ap, dParX_ap, dParX3_ap, xD_ap, xO_ap, dCallO_ap, dFzF_ap, dFzE_ap, dFrz_ap, dIxO_ap, dLenO_ap, dOwn_ap, dOwnD_ap, dOwnE_ap, dPutO_ap, dSetD_ap, dGet2_ap, dSl_ap, oOf_ap, oNo_ap, dMeth_ap, dLstO_ap, dNewD_ap, dPeek_ap, dPeekO_ap, dChain_ap, dExpr_ap, dCBO_ap, iS_ap, iEnum_ap, iZpA_ap, iR1_ap, dSortSet_ap, dLRg_ap, dFn_ap, dFnO_ap, dIfO_ap, dBg_ap, dExt_ap, dIns_ap, dSortVals_ap, dTRg_ap, dDictZip_ap, iR2_ap, iTx_ap, iEnum2_ap, dAug_ap, dPar_ap, dBreak_ap, dCont_ap, dFor_ap, dLc_ap, dLcO_ap, dArgs, DAr.ev, arD, gOne_ap, gsNil_ap, gsCons_ap, gTup_ap, OC.data, Ar.sl, wipeE, List.map_cons, List.map_nil, List.replicate_succ, List.replicate_zero, List.cons_append, List.nil_append, List.length_cons, List.length_nil, Option.bind_some, Option.map_some, Option.bind_none, Option.map_none, List.getElem?_cons_zero, List.getElem?_cons_succ, List.set_cons_zero, List.set_cons_succ, Nat.reduceAdd, Nat.reduceSub, Nat.reduceLeDiff, Nat.reduceEqDiff, if_true, if_false, reduceIte, ite_true, ite_false, Nat.reduceMul, Int.reduceNeg, ite_run, bAnd_t, bAnd_f, bAnd_b, bOr_t, bOr_f, bOr_b, bIf_b, Bool.false_eq_true, Bool.not_true, Bool.not_false, Bool.true_and, Bool.false_and, Bool.and_true, Bool.and_false, Bool.true_or, Bool.false_or, Bool.or_true, Bool.or_false, e]
theorem eqA_pair {a b c d : Str} (ha : PyData.strOk a = true) (hb : PyData.strOk b = true) (hc : PyData.strOk c = true) (hd : PyData.strOk d = true) : gEqA (.tuple [.str a, .str b]) (.tuple [.str c, .str d]) = some (.bool ((a == c) && (b == d))) := by
  have e : gEq (.tuple [.str a, .str b]) (.tuple [.str c, .str d]) = some (.bool ((a == c) && (b == d))) := by
    unfold gEq
    simp [SeqAt.shaped, PyData.canLay0, PyData.canLayAll0, ha, hb, hc, hd, PyData.depth, PyData.depthAll, PyData.eqv, PyData.eqvAll]
  unfold gEqA gOr
  exact e
def RuOk (u : Str × Str) : Prop := PyData.strOk u.1 = true ∧ PyData.strOk u.2 = true
theorem rules_nm : ∀ u ∈ rulesAll, RuOk u := by
  show ∀ u ∈ rulesAll, PyData.strOk u.1 = true ∧ PyData.strOk u.2 = true
  decide +kernel
def eqR (u v : Str × Str) : Bool := (u.1 == v.1) && (u.2 == v.2)
theorem eqR_ok {u v : Str × Str} (hu : RuOk u) (hv : RuOk v) : gEqA (ruD u) (ruD v) = some (.bool (eqR u v)) := eqA_pair hu.1 hu.2 hv.1 hv.2
theorem ru_0 (u : Str × Str) : gIxA (ruD u) (.int 0) = some (.str u.1) := by unfold ruD; rw [gIxA_tup, atI_0]
theorem ru_1 (u : Str × Str) : gIxA (ruD u) (.int 1) = some (.str u.2) := by unfold ruD; rw [gIxA_tup, atI_1]
def sameB (u v : Str × Str) : Bool := eqR u v || ((u.1 == "drawn") && (("drawn" : Str) == v.1))
theorem same_ok {u v : Str × Str} (hu : RuOk u) (hv : RuOk v) (B : Bg) : F_same_doctrine [.d (ruD u), .d (ruD v)] B = some (.bool (sameB u v), B) := by
  unfold sameB
  cases h1 : eqR u v <;> cases h2 : u.1 == "drawn" <;>
    simp only [F_same_doctrine, d_same_doctrine, dSeq_ap, dIfS_ap, dAsg_ap, dRet_ap, dRetO_ap, dRetV_ap, dNil_ap, dNever_ap, dVar_ap, dC_ap, dBin_ap, dUn_ap, dAnd_ap, dOr_ap, dIf_ap, dCB_ap, dCall_ap, dPush_ap, dParX_ap, dParX3_ap, xD_ap, xO_ap, dCallO_ap, dFzF_ap, dFzE_ap, dFrz_ap, dIxO_ap, dLenO_ap, dOwn_ap, dOwnD_ap, dOwnE_ap, dPutO_ap, dSetD_ap, dGet2_ap, dSl_ap, oOf_ap, oNo_ap, dMeth_ap, dLstO_ap, dNewD_ap, dPeek_ap, dPeekO_ap, dChain_ap, dExpr_ap, dCBO_ap, iS_ap, iEnum_ap, iZpA_ap, iR1_ap, dSortSet_ap, dLRg_ap, dFn_ap, dFnO_ap, dIfO_ap, dBg_ap, dExt_ap, dIns_ap, dSortVals_ap, dTRg_ap, dDictZip_ap, iR2_ap, iTx_ap, iEnum2_ap, dAug_ap, dPar_ap, dBreak_ap, dCont_ap, dFor_ap, dLc_ap, dLcO_ap, dArgs, DAr.ev, arD, gOne_ap, gsNil_ap, gsCons_ap, gTup_ap, OC.data, Ar.sl, wipeE, List.map_cons, List.map_nil, List.replicate_succ, List.replicate_zero, List.cons_append, List.nil_append, List.length_cons, List.length_nil, Option.bind_some, Option.map_some, Option.bind_none, Option.map_none, List.getElem?_cons_zero, List.getElem?_cons_succ, List.set_cons_zero, List.set_cons_succ, Nat.reduceAdd, Nat.reduceSub, Nat.reduceLeDiff, Nat.reduceEqDiff, if_true, if_false, reduceIte, ite_true, ite_false, Nat.reduceMul, Int.reduceNeg, ite_run, bAnd_t, bAnd_f, bAnd_b, bOr_t, bOr_f, bOr_b, bIf_b, Bool.false_eq_true, Bool.not_true, Bool.not_false, Bool.true_and, Bool.false_and, Bool.and_true, Bool.and_false, Bool.true_or, Bool.false_or, Bool.or_true, Bool.or_false, eqR_ok hu hv, h1, ru_0, eqA_str, h2]
def leastR (u : Str × Str) : Str × Str := if (u.1 == "drawn") = true then ("drawn", "never") else u
def ltR (a b : Str × Str) : Str × Str := if PySem.W.dataLt (ruD b) (ruD a) then b else a
theorem minD_ru : ∀ (l : List (Str × Str)) (a : Str × Str), PySem.W.minD (ruD a) (l.map ruD) = ruD (l.foldl ltR a)
  | [], a => rfl
  | b :: l, a => by
    show PySem.W.minD (if PySem.W.dataLt (ruD b) (ruD a) then ruD b else ruD a) (l.map ruD) = ruD (l.foldl ltR (ltR a b))
    rw [← minD_ru l (ltR a b)]
    unfold ltR
    cases PySem.W.dataLt (ruD b) (ruD a) <;> rfl
def minChk (u : Str × Str) : Bool := match rulesAll.filter (sameB u) with
  | [] => false
  | a :: l => sortOk ((a :: l).map ruD) && decide (l.foldl ltR a = leastR u)
theorem min_ok {u : Str × Str} (hu : u ∈ rulesAll) : gMinD [.list ((rulesAll.filter (sameB u)).map ruD)] = some (ruD (leastR u)) := by
  have all : ∀ u ∈ rulesAll, minChk u = true := by decide +kernel
  have h := all u hu
  unfold minChk at h
  cases q : rulesAll.filter (sameB u) with
  | nil => rw [q] at h; cases h
  | cons a l =>
    rw [q] at h
    dsimp only at h
    rw [Bool.and_eq_true, decide_eq_true_eq] at h
    show (if _ then some (PySem.W.minD (ruD a) (l.map ruD)) else none) = _
    rw [List.map_cons] at h
    rw [if_pos h.1, minD_ru, h.2]
theorem doctrineOf_ok {u : Str × Str} (hu : u ∈ rulesAll) (B : Bg) : F_doctrine_of [.d (ruD u)] B = some (ruD (leastR u), B) := by
  simp only [F_doctrine_of, d_doctrine_of, dSeq_ap, dIfS_ap, dAsg_ap, dRet_ap, dRetO_ap, dRetV_ap, dNil_ap, dNever_ap, dVar_ap, dC_ap, dBin_ap, dUn_ap, dAnd_ap, dOr_ap, dIf_ap, dCB_ap, dCall_ap, dPush_ap, dParX_ap, dParX3_ap, xD_ap, xO_ap, dCallO_ap, dFzF_ap, dFzE_ap, dFrz_ap, dIxO_ap, dLenO_ap, dOwn_ap, dOwnD_ap, dOwnE_ap, dPutO_ap, dSetD_ap, dGet2_ap, dSl_ap, oOf_ap, oNo_ap, dMeth_ap, dLstO_ap, dNewD_ap, dPeek_ap, dPeekO_ap, dChain_ap, dExpr_ap, dCBO_ap, iS_ap, iEnum_ap, iZpA_ap, iR1_ap, dSortSet_ap, dLRg_ap, dFn_ap, dFnO_ap, dIfO_ap, dBg_ap, dExt_ap, dIns_ap, dSortVals_ap, dTRg_ap, dDictZip_ap, iR2_ap, iTx_ap, iEnum2_ap, dAug_ap, dPar_ap, dBreak_ap, dCont_ap, dFor_ap, dLc_ap, dLcO_ap, dArgs, DAr.ev, arD, gOne_ap, gsNil_ap, gsCons_ap, gTup_ap, OC.data, Ar.sl, wipeE, List.map_cons, List.map_nil, List.replicate_succ, List.replicate_zero, List.cons_append, List.nil_append, List.length_cons, List.length_nil, Option.bind_some, Option.map_some, Option.bind_none, Option.map_none, List.getElem?_cons_zero, List.getElem?_cons_succ, List.set_cons_zero, List.set_cons_succ, Nat.reduceAdd, Nat.reduceSub, Nat.reduceLeDiff, Nat.reduceEqDiff, if_true, if_false, reduceIte, ite_true, ite_false, Nat.reduceMul, Int.reduceNeg, ite_run, bAnd_t, bAnd_f, bAnd_b, bOr_t, bOr_f, bOr_b, bIf_b, Bool.false_eq_true, Bool.not_true, Bool.not_false, Bool.true_and, Bool.false_and, Bool.and_true, Bool.and_false, Bool.true_or, Bool.false_or, Bool.or_true, Bool.or_false, rules_ok]
  rw [if_pos (by decide), lcGo_map (sameB u) ruD rulesAll (fun v hv => ⟨_, rfl, by simp only [dSeq_ap, dIfS_ap, dAsg_ap, dRet_ap, dRetO_ap, dRetV_ap, dNil_ap, dNever_ap, dVar_ap, dC_ap, dBin_ap, dUn_ap, dAnd_ap, dOr_ap, dIf_ap, dCB_ap, dCall_ap, dPush_ap, dParX_ap, dParX3_ap, xD_ap, xO_ap, dCallO_ap, dFzF_ap, dFzE_ap, dFrz_ap, dIxO_ap, dLenO_ap, dOwn_ap, dOwnD_ap, dOwnE_ap, dPutO_ap, dSetD_ap, dGet2_ap, dSl_ap, oOf_ap, oNo_ap, dMeth_ap, dLstO_ap, dNewD_ap, dPeek_ap, dPeekO_ap, dChain_ap, dExpr_ap, dCBO_ap, iS_ap, iEnum_ap, iZpA_ap, iR1_ap, dSortSet_ap, dLRg_ap, dFn_ap, dFnO_ap, dIfO_ap, dBg_ap, dExt_ap, dIns_ap, dSortVals_ap, dTRg_ap, dDictZip_ap, iR2_ap, iTx_ap, iEnum2_ap, dAug_ap, dPar_ap, dBreak_ap, dCont_ap, dFor_ap, dLc_ap, dLcO_ap, dArgs, DAr.ev, arD, gOne_ap, gsNil_ap, gsCons_ap, gTup_ap, OC.data, Ar.sl, wipeE, List.map_cons, List.map_nil, List.replicate_succ, List.replicate_zero, List.cons_append, List.nil_append, List.length_cons, List.length_nil, Option.bind_some, Option.map_some, Option.bind_none, Option.map_none, List.getElem?_cons_zero, List.getElem?_cons_succ, List.set_cons_zero, List.set_cons_succ, Nat.reduceAdd, Nat.reduceSub, Nat.reduceLeDiff, Nat.reduceEqDiff, if_true, if_false, reduceIte, ite_true, ite_false, Nat.reduceMul, Int.reduceNeg, ite_run, bAnd_t, bAnd_f, bAnd_b, bOr_t, bOr_f, bOr_b, bIf_b, Bool.false_eq_true, Bool.not_true, Bool.not_false, Bool.true_and, Bool.false_and, Bool.and_true, Bool.and_false, Bool.true_or, Bool.false_or, Bool.or_true, Bool.or_false, same_ok (rules_nm u hu) (rules_nm v hv)], fun _ => by simp only [dSeq_ap, dIfS_ap, dAsg_ap, dRet_ap, dRetO_ap, dRetV_ap, dNil_ap, dNever_ap, dVar_ap, dC_ap, dBin_ap, dUn_ap, dAnd_ap, dOr_ap, dIf_ap, dCB_ap, dCall_ap, dPush_ap, dParX_ap, dParX3_ap, xD_ap, xO_ap, dCallO_ap, dFzF_ap, dFzE_ap, dFrz_ap, dIxO_ap, dLenO_ap, dOwn_ap, dOwnD_ap, dOwnE_ap, dPutO_ap, dSetD_ap, dGet2_ap, dSl_ap, oOf_ap, oNo_ap, dMeth_ap, dLstO_ap, dNewD_ap, dPeek_ap, dPeekO_ap, dChain_ap, dExpr_ap, dCBO_ap, iS_ap, iEnum_ap, iZpA_ap, iR1_ap, dSortSet_ap, dLRg_ap, dFn_ap, dFnO_ap, dIfO_ap, dBg_ap, dExt_ap, dIns_ap, dSortVals_ap, dTRg_ap, dDictZip_ap, iR2_ap, iTx_ap, iEnum2_ap, dAug_ap, dPar_ap, dBreak_ap, dCont_ap, dFor_ap, dLc_ap, dLcO_ap, dArgs, DAr.ev, arD, gOne_ap, gsNil_ap, gsCons_ap, gTup_ap, OC.data, Ar.sl, wipeE, List.map_cons, List.map_nil, List.replicate_succ, List.replicate_zero, List.cons_append, List.nil_append, List.length_cons, List.length_nil, Option.bind_some, Option.map_some, Option.bind_none, Option.map_none, List.getElem?_cons_zero, List.getElem?_cons_succ, List.set_cons_zero, List.set_cons_succ, Nat.reduceAdd, Nat.reduceSub, Nat.reduceLeDiff, Nat.reduceEqDiff, if_true, if_false, reduceIte, ite_true, ite_false, Nat.reduceMul, Int.reduceNeg, ite_run, bAnd_t, bAnd_f, bAnd_b, bOr_t, bOr_f, bOr_b, bIf_b, Bool.false_eq_true, Bool.not_true, Bool.not_false, Bool.true_and, Bool.false_and, Bool.and_true, Bool.and_false, Bool.true_or, Bool.false_or, Bool.or_true, Bool.or_false]⟩)]
  simp only [dSeq_ap, dIfS_ap, dAsg_ap, dRet_ap, dRetO_ap, dRetV_ap, dNil_ap, dNever_ap, dVar_ap, dC_ap, dBin_ap, dUn_ap, dAnd_ap, dOr_ap, dIf_ap, dCB_ap, dCall_ap, dPush_ap, dParX_ap, dParX3_ap, xD_ap, xO_ap, dCallO_ap, dFzF_ap, dFzE_ap, dFrz_ap, dIxO_ap, dLenO_ap, dOwn_ap, dOwnD_ap, dOwnE_ap, dPutO_ap, dSetD_ap, dGet2_ap, dSl_ap, oOf_ap, oNo_ap, dMeth_ap, dLstO_ap, dNewD_ap, dPeek_ap, dPeekO_ap, dChain_ap, dExpr_ap, dCBO_ap, iS_ap, iEnum_ap, iZpA_ap, iR1_ap, dSortSet_ap, dLRg_ap, dFn_ap, dFnO_ap, dIfO_ap, dBg_ap, dExt_ap, dIns_ap, dSortVals_ap, dTRg_ap, dDictZip_ap, iR2_ap, iTx_ap, iEnum2_ap, dAug_ap, dPar_ap, dBreak_ap, dCont_ap, dFor_ap, dLc_ap, dLcO_ap, dArgs, DAr.ev, arD, gOne_ap, gsNil_ap, gsCons_ap, gTup_ap, OC.data, Ar.sl, wipeE, List.map_cons, List.map_nil, List.replicate_succ, List.replicate_zero, List.cons_append, List.nil_append, List.length_cons, List.length_nil, Option.bind_some, Option.map_some, Option.bind_none, Option.map_none, List.getElem?_cons_zero, List.getElem?_cons_succ, List.set_cons_zero, List.set_cons_succ, Nat.reduceAdd, Nat.reduceSub, Nat.reduceLeDiff, Nat.reduceEqDiff, if_true, if_false, reduceIte, ite_true, ite_false, Nat.reduceMul, Int.reduceNeg, ite_run, bAnd_t, bAnd_f, bAnd_b, bOr_t, bOr_f, bOr_b, bIf_b, Bool.false_eq_true, Bool.not_true, Bool.not_false, Bool.true_and, Bool.false_and, Bool.and_true, Bool.and_false, Bool.true_or, Bool.false_or, Bool.or_true, Bool.or_false, min_ok hu]
def leastAll : List (Str × Str) := [("both", "never"), ("both", "next"), ("both", "once"), ("drawn", "never"), ("entered", "never"), ("entered", "next"), ("entered", "once"), ("innocent", "never"), ("innocent", "next"), ("innocent", "once")]
theorem least_in {u : Str × Str} (hu : u ∈ rulesAll) : leastR u ∈ rulesAll := by
  have h : ∀ u ∈ rulesAll, leastR u ∈ rulesAll := by decide +kernel
  exact h u hu
theorem doctrines_ok (B : Bg) : F_doctrines [] B = some (.l (leastAll.map ruD), B) := by
  simp only [F_doctrines, d_doctrines, dSeq_ap, dIfS_ap, dAsg_ap, dRet_ap, dRetO_ap, dRetV_ap, dNil_ap, dNever_ap, dVar_ap, dC_ap, dBin_ap, dUn_ap, dAnd_ap, dOr_ap, dIf_ap, dCB_ap, dCall_ap, dPush_ap, dParX_ap, dParX3_ap, xD_ap, xO_ap, dCallO_ap, dFzF_ap, dFzE_ap, dFrz_ap, dIxO_ap, dLenO_ap, dOwn_ap, dOwnD_ap, dOwnE_ap, dPutO_ap, dSetD_ap, dGet2_ap, dSl_ap, oOf_ap, oNo_ap, dMeth_ap, dLstO_ap, dNewD_ap, dPeek_ap, dPeekO_ap, dChain_ap, dExpr_ap, dCBO_ap, iS_ap, iEnum_ap, iZpA_ap, iR1_ap, dSortSet_ap, dLRg_ap, dFn_ap, dFnO_ap, dIfO_ap, dBg_ap, dExt_ap, dIns_ap, dSortVals_ap, dTRg_ap, dDictZip_ap, iR2_ap, iTx_ap, iEnum2_ap, dAug_ap, dPar_ap, dBreak_ap, dCont_ap, dFor_ap, dLc_ap, dLcO_ap, dArgs, DAr.ev, arD, gOne_ap, gsNil_ap, gsCons_ap, gTup_ap, OC.data, Ar.sl, wipeE, List.map_cons, List.map_nil, List.replicate_succ, List.replicate_zero, List.cons_append, List.nil_append, List.length_cons, List.length_nil, Option.bind_some, Option.map_some, Option.bind_none, Option.map_none, List.getElem?_cons_zero, List.getElem?_cons_succ, List.set_cons_zero, List.set_cons_succ, Nat.reduceAdd, Nat.reduceSub, Nat.reduceLeDiff, Nat.reduceEqDiff, if_true, if_false, reduceIte, ite_true, ite_false, Nat.reduceMul, Int.reduceNeg, ite_run, bAnd_t, bAnd_f, bAnd_b, bOr_t, bOr_f, bOr_b, bIf_b, Bool.false_eq_true, Bool.not_true, Bool.not_false, Bool.true_and, Bool.false_and, Bool.and_true, Bool.and_false, Bool.true_or, Bool.false_or, Bool.or_true, Bool.or_false, rules_ok]
  rw [if_pos (by decide), lcGo_map (fun u => eqR u (leastR u)) ruD rulesAll (fun v hv => ⟨_, rfl, by simp only [dSeq_ap, dIfS_ap, dAsg_ap, dRet_ap, dRetO_ap, dRetV_ap, dNil_ap, dNever_ap, dVar_ap, dC_ap, dBin_ap, dUn_ap, dAnd_ap, dOr_ap, dIf_ap, dCB_ap, dCall_ap, dPush_ap, dParX_ap, dParX3_ap, xD_ap, xO_ap, dCallO_ap, dFzF_ap, dFzE_ap, dFrz_ap, dIxO_ap, dLenO_ap, dOwn_ap, dOwnD_ap, dOwnE_ap, dPutO_ap, dSetD_ap, dGet2_ap, dSl_ap, oOf_ap, oNo_ap, dMeth_ap, dLstO_ap, dNewD_ap, dPeek_ap, dPeekO_ap, dChain_ap, dExpr_ap, dCBO_ap, iS_ap, iEnum_ap, iZpA_ap, iR1_ap, dSortSet_ap, dLRg_ap, dFn_ap, dFnO_ap, dIfO_ap, dBg_ap, dExt_ap, dIns_ap, dSortVals_ap, dTRg_ap, dDictZip_ap, iR2_ap, iTx_ap, iEnum2_ap, dAug_ap, dPar_ap, dBreak_ap, dCont_ap, dFor_ap, dLc_ap, dLcO_ap, dArgs, DAr.ev, arD, gOne_ap, gsNil_ap, gsCons_ap, gTup_ap, OC.data, Ar.sl, wipeE, List.map_cons, List.map_nil, List.replicate_succ, List.replicate_zero, List.cons_append, List.nil_append, List.length_cons, List.length_nil, Option.bind_some, Option.map_some, Option.bind_none, Option.map_none, List.getElem?_cons_zero, List.getElem?_cons_succ, List.set_cons_zero, List.set_cons_succ, Nat.reduceAdd, Nat.reduceSub, Nat.reduceLeDiff, Nat.reduceEqDiff, if_true, if_false, reduceIte, ite_true, ite_false, Nat.reduceMul, Int.reduceNeg, ite_run, bAnd_t, bAnd_f, bAnd_b, bOr_t, bOr_f, bOr_b, bIf_b, Bool.false_eq_true, Bool.not_true, Bool.not_false, Bool.true_and, Bool.false_and, Bool.and_true, Bool.and_false, Bool.true_or, Bool.false_or, Bool.or_true, Bool.or_false, doctrineOf_ok hv, eqR_ok (rules_nm v hv) (rules_nm _ (least_in hv))], fun _ => by simp only [dSeq_ap, dIfS_ap, dAsg_ap, dRet_ap, dRetO_ap, dRetV_ap, dNil_ap, dNever_ap, dVar_ap, dC_ap, dBin_ap, dUn_ap, dAnd_ap, dOr_ap, dIf_ap, dCB_ap, dCall_ap, dPush_ap, dParX_ap, dParX3_ap, xD_ap, xO_ap, dCallO_ap, dFzF_ap, dFzE_ap, dFrz_ap, dIxO_ap, dLenO_ap, dOwn_ap, dOwnD_ap, dOwnE_ap, dPutO_ap, dSetD_ap, dGet2_ap, dSl_ap, oOf_ap, oNo_ap, dMeth_ap, dLstO_ap, dNewD_ap, dPeek_ap, dPeekO_ap, dChain_ap, dExpr_ap, dCBO_ap, iS_ap, iEnum_ap, iZpA_ap, iR1_ap, dSortSet_ap, dLRg_ap, dFn_ap, dFnO_ap, dIfO_ap, dBg_ap, dExt_ap, dIns_ap, dSortVals_ap, dTRg_ap, dDictZip_ap, iR2_ap, iTx_ap, iEnum2_ap, dAug_ap, dPar_ap, dBreak_ap, dCont_ap, dFor_ap, dLc_ap, dLcO_ap, dArgs, DAr.ev, arD, gOne_ap, gsNil_ap, gsCons_ap, gTup_ap, OC.data, Ar.sl, wipeE, List.map_cons, List.map_nil, List.replicate_succ, List.replicate_zero, List.cons_append, List.nil_append, List.length_cons, List.length_nil, Option.bind_some, Option.map_some, Option.bind_none, Option.map_none, List.getElem?_cons_zero, List.getElem?_cons_succ, List.set_cons_zero, List.set_cons_succ, Nat.reduceAdd, Nat.reduceSub, Nat.reduceLeDiff, Nat.reduceEqDiff, if_true, if_false, reduceIte, ite_true, ite_false, Nat.reduceMul, Int.reduceNeg, ite_run, bAnd_t, bAnd_f, bAnd_b, bOr_t, bOr_f, bOr_b, bIf_b, Bool.false_eq_true, Bool.not_true, Bool.not_false, Bool.true_and, Bool.false_and, Bool.and_true, Bool.and_false, Bool.true_or, Bool.false_or, Bool.or_true, Bool.or_false]⟩)]
  simp only [dSeq_ap, dIfS_ap, dAsg_ap, dRet_ap, dRetO_ap, dRetV_ap, dNil_ap, dNever_ap, dVar_ap, dC_ap, dBin_ap, dUn_ap, dAnd_ap, dOr_ap, dIf_ap, dCB_ap, dCall_ap, dPush_ap, dParX_ap, dParX3_ap, xD_ap, xO_ap, dCallO_ap, dFzF_ap, dFzE_ap, dFrz_ap, dIxO_ap, dLenO_ap, dOwn_ap, dOwnD_ap, dOwnE_ap, dPutO_ap, dSetD_ap, dGet2_ap, dSl_ap, oOf_ap, oNo_ap, dMeth_ap, dLstO_ap, dNewD_ap, dPeek_ap, dPeekO_ap, dChain_ap, dExpr_ap, dCBO_ap, iS_ap, iEnum_ap, iZpA_ap, iR1_ap, dSortSet_ap, dLRg_ap, dFn_ap, dFnO_ap, dIfO_ap, dBg_ap, dExt_ap, dIns_ap, dSortVals_ap, dTRg_ap, dDictZip_ap, iR2_ap, iTx_ap, iEnum2_ap, dAug_ap, dPar_ap, dBreak_ap, dCont_ap, dFor_ap, dLc_ap, dLcO_ap, dArgs, DAr.ev, arD, gOne_ap, gsNil_ap, gsCons_ap, gTup_ap, OC.data, Ar.sl, wipeE, List.map_cons, List.map_nil, List.replicate_succ, List.replicate_zero, List.cons_append, List.nil_append, List.length_cons, List.length_nil, Option.bind_some, Option.map_some, Option.bind_none, Option.map_none, List.getElem?_cons_zero, List.getElem?_cons_succ, List.set_cons_zero, List.set_cons_succ, Nat.reduceAdd, Nat.reduceSub, Nat.reduceLeDiff, Nat.reduceEqDiff, if_true, if_false, reduceIte, ite_true, ite_false, Nat.reduceMul, Int.reduceNeg, ite_run, bAnd_t, bAnd_f, bAnd_b, bOr_t, bOr_f, bOr_b, bIf_b, Bool.false_eq_true, Bool.not_true, Bool.not_false, Bool.true_and, Bool.false_and, Bool.and_true, Bool.and_false, Bool.true_or, Bool.false_or, Bool.or_true, Bool.or_false]
  rfl
theorem lawRules_ok (B : Bg) : F__law_rules [] B = some (.l (rulesAll.map ruD), B) := rfl
theorem fit_ru {u : Str × Str} (h : u ∈ rulesAll) : Fit 1 171 (ruD u) := by
  have nm : ∀ u ∈ rulesAll, NmOk u.1 ∧ NmOk u.2 := by
    show ∀ u ∈ rulesAll, (PyData.strOk u.1 = true ∧ u.1.length ≤ 8) ∧ (PyData.strOk u.2 = true ∧ u.2.length ≤ 8)
    decide +kernel
  exact fit_tup (k := 0) (n := 82) 2 (fun d hd => by
    simp only [List.mem_cons, List.not_mem_nil, or_false] at hd
    rcases hd with rfl | rfl
    · exact fit_str (nm u h).1
    · exact fit_str (nm u h).2) (by simp)
theorem fit_rus {l : List (Str × Str)} (h : ∀ u ∈ l, u ∈ rulesAll) (hl : l.length ≤ 12) : Fit 2 2100 (.list (l.map ruD)) :=
  (fit_lst (k := 1) (n := 171) 12 (fun d hd => by
    obtain ⟨u, hu, rfl⟩ := List.mem_map.mp hd
    exact fit_ru (h u hu)) (by rw [List.length_map]; exact hl)).mono (by decide) (by decide)
theorem least_mem : ∀ u ∈ leastAll, u ∈ rulesAll := by decide +kernel
theorem dTold_ap (i j : Nat) (fo1 fo2 : DEO) (ft : DE) (g1 : DS) (env : Env) (B : Bg) : dTold i j fo1 fo2 ft g1 env B = (fo1 env B).bind fun p => (fo2 env p.2).bind fun q => match p.1, q.1 with
  | .l xs, .l ys => if xs.length < 50000 ∧ ys.length < 50000 ∧ i < env.length ∧ j < env.length then (ft (env.set i (.sh (.list [.list xs, .list ys]))) q.2).bind fun r => match r.1 with
      | .bool true => (g1 (env.set i (.sh (.list [.list xs, .list ys]))) r.2).bind fun o => match o with
        | .rt d B => some (.rt d B)
        | _ => none
      | .bool false => some (.nx ((env.set i .no).set j .no) r.2)
      | _ => none
    else none
  | _, _ => none := rfl
theorem perm_in {us : List (Str × Str)} (p : us.Perm rulesAll) {d : PyData} (h : d ∈ us.map ruD) : ∃ u, d = ruD u ∧ u ∈ rulesAll := by
  obtain ⟨u, hu, rfl⟩ := List.mem_map.mp h
  exact ⟨u, rfl, p.mem_iff.mp hu⟩
theorem shaped_ru {u : Str × Str} (h : u ∈ rulesAll) : SeqAt.shaped (ruD u) = true := by
  have r := rules_nm u h
  unfold ruD
  simp [SeqAt.shaped, PyData.canLay0, PyData.canLayAll0, r.1, r.2, PyData.depth, PyData.depthAll]
theorem nin_ok {u : Str × Str} (hu : u ∈ rulesAll) : gNotInB (ruD (leastR u)) (.list (leastAll.map ruD)) = some (.bool false) := by
  have mem : ∀ u ∈ rulesAll, leastR u ∈ leastAll := by decide +kernel
  have e1 : gNotInA (ruD (leastR u)) (.list (leastAll.map ruD)) = none := rfl
  have e2 : inD (ruD (leastR u)) (leastAll.map ruD) = true := by
    unfold inD
    rw [List.any_eq_true]
    refine ⟨_, List.mem_map.mpr ⟨_, mem u hu, rfl⟩, ?_⟩
    exact PySem.SeqAt.eqv_refl _ (SeqAt.canLay_of_shaped (shaped_ru (least_in hu)))
  have e3 : SeqAt.shaped (.list (leastAll.map ruD)) = true := by decide +kernel
  unfold gNotInB gOr
  rw [e1]
  show (none : Option PyData).or (if _ then _ else _) = _
  rw [Option.none_or, shaped_ru (least_in hu), e3, e2]
  rfl
theorem law_val : LawVal := by
  intro ns _
  have h : Ends (fun d => d = PyData.bool true) ((d_law (.no :: .bag :: List.replicate 10 .no) (bag0 ns)).bind fun o => match o with
    | .rt d B => some (d, B)
    | _ => none) := by
    have fr : Fit 3 4300 (.list [.list (rulesAll.map ruD), .list (leastAll.map ruD)]) := (fit_lst (k := 2) (n := 2100) 2 (fun d hd => by
      simp only [List.mem_cons, List.not_mem_nil, or_false] at hd
      rcases hd with rfl | rfl
      · exact fit_rus (fun u h => h) (by decide)
      · exact fit_rus least_mem (by decide)) (by simp)).mono (by decide) (by decide)
    simp only [d_law, dSeq_ap, dIfS_ap, dAsg_ap, dRet_ap, dRetO_ap, dRetV_ap, dNil_ap, dNever_ap, dVar_ap, dC_ap, dBin_ap, dUn_ap, dAnd_ap, dOr_ap, dIf_ap, dCB_ap, dCall_ap, dPush_ap, dParX_ap, dParX3_ap, xD_ap, xO_ap, dCallO_ap, dFzF_ap, dFzE_ap, dFrz_ap, dIxO_ap, dLenO_ap, dOwn_ap, dOwnD_ap, dOwnE_ap, dPutO_ap, dSetD_ap, dGet2_ap, dSl_ap, oOf_ap, oNo_ap, dMeth_ap, dLstO_ap, dNewD_ap, dPeek_ap, dPeekO_ap, dChain_ap, dExpr_ap, dCBO_ap, iS_ap, iEnum_ap, iZpA_ap, iR1_ap, dSortSet_ap, dLRg_ap, dFn_ap, dFnO_ap, dIfO_ap, dBg_ap, dExt_ap, dIns_ap, dSortVals_ap, dTRg_ap, dDictZip_ap, iR2_ap, iTx_ap, iEnum2_ap, dAug_ap, dPar_ap, dBreak_ap, dCont_ap, dFor_ap, dLc_ap, dLcO_ap, dArgs, DAr.ev, arD, gOne_ap, gsNil_ap, gsCons_ap, gTup_ap, OC.data, Ar.sl, wipeE, List.map_cons, List.map_nil, List.replicate_succ, List.replicate_zero, List.cons_append, List.nil_append, List.length_cons, List.length_nil, Option.bind_some, Option.map_some, Option.bind_none, Option.map_none, List.getElem?_cons_zero, List.getElem?_cons_succ, List.set_cons_zero, List.set_cons_succ, Nat.reduceAdd, Nat.reduceSub, Nat.reduceLeDiff, Nat.reduceEqDiff, if_true, if_false, reduceIte, ite_true, ite_false, Nat.reduceMul, Int.reduceNeg, ite_run, bAnd_t, bAnd_f, bAnd_b, bOr_t, bOr_f, bOr_b, bIf_b, Bool.false_eq_true, Bool.not_true, Bool.not_false, Bool.true_and, Bool.false_and, Bool.and_true, Bool.and_false, Bool.true_or, Bool.false_or, Bool.or_true, Bool.or_false, lawRules_ok]
    rw [lcGo_map (enc := ruD) (fun u : Str × Str => !(u.1 == "drawn") || (u.2 == "never")) ruD rulesAll (fun u hu => ⟨_, rfl, by cases h : u.1 == "drawn" <;> simp only [dSeq_ap, dIfS_ap, dAsg_ap, dRet_ap, dRetO_ap, dRetV_ap, dNil_ap, dNever_ap, dVar_ap, dC_ap, dBin_ap, dUn_ap, dAnd_ap, dOr_ap, dIf_ap, dCB_ap, dCall_ap, dPush_ap, dParX_ap, dParX3_ap, xD_ap, xO_ap, dCallO_ap, dFzF_ap, dFzE_ap, dFrz_ap, dIxO_ap, dLenO_ap, dOwn_ap, dOwnD_ap, dOwnE_ap, dPutO_ap, dSetD_ap, dGet2_ap, dSl_ap, oOf_ap, oNo_ap, dMeth_ap, dLstO_ap, dNewD_ap, dPeek_ap, dPeekO_ap, dChain_ap, dExpr_ap, dCBO_ap, iS_ap, iEnum_ap, iZpA_ap, iR1_ap, dSortSet_ap, dLRg_ap, dFn_ap, dFnO_ap, dIfO_ap, dBg_ap, dExt_ap, dIns_ap, dSortVals_ap, dTRg_ap, dDictZip_ap, iR2_ap, iTx_ap, iEnum2_ap, dAug_ap, dPar_ap, dBreak_ap, dCont_ap, dFor_ap, dLc_ap, dLcO_ap, dArgs, DAr.ev, arD, gOne_ap, gsNil_ap, gsCons_ap, gTup_ap, OC.data, Ar.sl, wipeE, List.map_cons, List.map_nil, List.replicate_succ, List.replicate_zero, List.cons_append, List.nil_append, List.length_cons, List.length_nil, Option.bind_some, Option.map_some, Option.bind_none, Option.map_none, List.getElem?_cons_zero, List.getElem?_cons_succ, List.set_cons_zero, List.set_cons_succ, Nat.reduceAdd, Nat.reduceSub, Nat.reduceLeDiff, Nat.reduceEqDiff, if_true, if_false, reduceIte, ite_true, ite_false, Nat.reduceMul, Int.reduceNeg, ite_run, bAnd_t, bAnd_f, bAnd_b, bOr_t, bOr_f, bOr_b, bIf_b, Bool.false_eq_true, Bool.not_true, Bool.not_false, Bool.true_and, Bool.false_and, Bool.and_true, Bool.and_false, Bool.true_or, Bool.false_or, Bool.or_true, Bool.or_false, ru_0, ru_1, neA_str, eqA_str, h], fun _ => by simp only [dSeq_ap, dIfS_ap, dAsg_ap, dRet_ap, dRetO_ap, dRetV_ap, dNil_ap, dNever_ap, dVar_ap, dC_ap, dBin_ap, dUn_ap, dAnd_ap, dOr_ap, dIf_ap, dCB_ap, dCall_ap, dPush_ap, dParX_ap, dParX3_ap, xD_ap, xO_ap, dCallO_ap, dFzF_ap, dFzE_ap, dFrz_ap, dIxO_ap, dLenO_ap, dOwn_ap, dOwnD_ap, dOwnE_ap, dPutO_ap, dSetD_ap, dGet2_ap, dSl_ap, oOf_ap, oNo_ap, dMeth_ap, dLstO_ap, dNewD_ap, dPeek_ap, dPeekO_ap, dChain_ap, dExpr_ap, dCBO_ap, iS_ap, iEnum_ap, iZpA_ap, iR1_ap, dSortSet_ap, dLRg_ap, dFn_ap, dFnO_ap, dIfO_ap, dBg_ap, dExt_ap, dIns_ap, dSortVals_ap, dTRg_ap, dDictZip_ap, iR2_ap, iTx_ap, iEnum2_ap, dAug_ap, dPar_ap, dBreak_ap, dCont_ap, dFor_ap, dLc_ap, dLcO_ap, dArgs, DAr.ev, arD, gOne_ap, gsNil_ap, gsCons_ap, gTup_ap, OC.data, Ar.sl, wipeE, List.map_cons, List.map_nil, List.replicate_succ, List.replicate_zero, List.cons_append, List.nil_append, List.length_cons, List.length_nil, Option.bind_some, Option.map_some, Option.bind_none, Option.map_none, List.getElem?_cons_zero, List.getElem?_cons_succ, List.set_cons_zero, List.set_cons_succ, Nat.reduceAdd, Nat.reduceSub, Nat.reduceLeDiff, Nat.reduceEqDiff, if_true, if_false, reduceIte, ite_true, ite_false, Nat.reduceMul, Int.reduceNeg, ite_run, bAnd_t, bAnd_f, bAnd_b, bOr_t, bOr_f, bOr_b, bIf_b, Bool.false_eq_true, Bool.not_true, Bool.not_false, Bool.true_and, Bool.false_and, Bool.and_true, Bool.and_false, Bool.true_or, Bool.false_or, Bool.or_true, Bool.or_false]⟩),
      show rulesAll.filter (fun u : Str × Str => !(u.1 == "drawn") || (u.2 == "never")) = leastAll by decide +kernel, if_pos (by decide)]
    simp only [dSeq_ap, dIfS_ap, dAsg_ap, dRet_ap, dRetO_ap, dRetV_ap, dNil_ap, dNever_ap, dVar_ap, dC_ap, dBin_ap, dUn_ap, dAnd_ap, dOr_ap, dIf_ap, dCB_ap, dCall_ap, dPush_ap, dParX_ap, dParX3_ap, xD_ap, xO_ap, dCallO_ap, dFzF_ap, dFzE_ap, dFrz_ap, dIxO_ap, dLenO_ap, dOwn_ap, dOwnD_ap, dOwnE_ap, dPutO_ap, dSetD_ap, dGet2_ap, dSl_ap, oOf_ap, oNo_ap, dMeth_ap, dLstO_ap, dNewD_ap, dPeek_ap, dPeekO_ap, dChain_ap, dExpr_ap, dCBO_ap, iS_ap, iEnum_ap, iZpA_ap, iR1_ap, dSortSet_ap, dLRg_ap, dFn_ap, dFnO_ap, dIfO_ap, dBg_ap, dExt_ap, dIns_ap, dSortVals_ap, dTRg_ap, dDictZip_ap, iR2_ap, iTx_ap, iEnum2_ap, dAug_ap, dPar_ap, dBreak_ap, dCont_ap, dFor_ap, dLc_ap, dLcO_ap, dArgs, DAr.ev, arD, gOne_ap, gsNil_ap, gsCons_ap, gTup_ap, OC.data, Ar.sl, wipeE, List.map_cons, List.map_nil, List.replicate_succ, List.replicate_zero, List.cons_append, List.nil_append, List.length_cons, List.length_nil, Option.bind_some, Option.map_some, Option.bind_none, Option.map_none, List.getElem?_cons_zero, List.getElem?_cons_succ, List.set_cons_zero, List.set_cons_succ, Nat.reduceAdd, Nat.reduceSub, Nat.reduceLeDiff, Nat.reduceEqDiff, if_true, if_false, reduceIte, ite_true, ite_false, Nat.reduceMul, Int.reduceNeg, ite_run, bAnd_t, bAnd_f, bAnd_b, bOr_t, bOr_f, bOr_b, bIf_b, Bool.false_eq_true, Bool.not_true, Bool.not_false, Bool.true_and, Bool.false_and, Bool.and_true, Bool.and_false, Bool.true_or, Bool.false_or, Bool.or_true, Bool.or_false]
    rw [if_pos (by decide)]
    simp only [dSeq_ap, dIfS_ap, dAsg_ap, dRet_ap, dRetO_ap, dRetV_ap, dNil_ap, dNever_ap, dVar_ap, dC_ap, dBin_ap, dUn_ap, dAnd_ap, dOr_ap, dIf_ap, dCB_ap, dCall_ap, dPush_ap, dParX_ap, dParX3_ap, xD_ap, xO_ap, dCallO_ap, dFzF_ap, dFzE_ap, dFrz_ap, dIxO_ap, dLenO_ap, dOwn_ap, dOwnD_ap, dOwnE_ap, dPutO_ap, dSetD_ap, dGet2_ap, dSl_ap, oOf_ap, oNo_ap, dMeth_ap, dLstO_ap, dNewD_ap, dPeek_ap, dPeekO_ap, dChain_ap, dExpr_ap, dCBO_ap, iS_ap, iEnum_ap, iZpA_ap, iR1_ap, dSortSet_ap, dLRg_ap, dFn_ap, dFnO_ap, dIfO_ap, dBg_ap, dExt_ap, dIns_ap, dSortVals_ap, dTRg_ap, dDictZip_ap, iR2_ap, iTx_ap, iEnum2_ap, dAug_ap, dPar_ap, dBreak_ap, dCont_ap, dFor_ap, dLc_ap, dLcO_ap, dArgs, DAr.ev, arD, gOne_ap, gsNil_ap, gsCons_ap, gTup_ap, OC.data, Ar.sl, wipeE, List.map_cons, List.map_nil, List.replicate_succ, List.replicate_zero, List.cons_append, List.nil_append, List.length_cons, List.length_nil, Option.bind_some, Option.map_some, Option.bind_none, Option.map_none, List.getElem?_cons_zero, List.getElem?_cons_succ, List.set_cons_zero, List.set_cons_succ, Nat.reduceAdd, Nat.reduceSub, Nat.reduceLeDiff, Nat.reduceEqDiff, if_true, if_false, reduceIte, ite_true, ite_false, Nat.reduceMul, Int.reduceNeg, ite_run, bAnd_t, bAnd_f, bAnd_b, bOr_t, bOr_f, bOr_b, bIf_b, Bool.false_eq_true, Bool.not_true, Bool.not_false, Bool.true_and, Bool.false_and, Bool.and_true, Bool.and_false, Bool.true_or, Bool.false_or, Bool.or_true, Bool.or_false]
    rw [Option.bind_assoc]
    refine Ends.for (fun k env => ∃ a b c, env = [.no, .bag, .sh (.list (rulesAll.map ruD)), .sh (.list (leastAll.map ruD)), a, .no, b, c, .no, .no, .no, .no]) ⟨_, _, _, rfl⟩ (bag0_ok ns) (fun k d env B hd hk ⟨a, b, c, he⟩ ok => ?_) fun env' B2 ⟨a, b, c, he⟩ ok2 => ?_
    · subst he
      refine ⟨_, rfl, ?_⟩
      have al := alike_ok rfl fr (by decide) (by decide) B
      simp only [dTold_ap, dSeq_ap, dIfS_ap, dAsg_ap, dRet_ap, dRetO_ap, dRetV_ap, dNil_ap, dNever_ap, dVar_ap, dC_ap, dBin_ap, dUn_ap, dAnd_ap, dOr_ap, dIf_ap, dCB_ap, dCall_ap, dPush_ap, dParX_ap, dParX3_ap, xD_ap, xO_ap, dCallO_ap, dFzF_ap, dFzE_ap, dFrz_ap, dIxO_ap, dLenO_ap, dOwn_ap, dOwnD_ap, dOwnE_ap, dPutO_ap, dSetD_ap, dGet2_ap, dSl_ap, oOf_ap, oNo_ap, dMeth_ap, dLstO_ap, dNewD_ap, dPeek_ap, dPeekO_ap, dChain_ap, dExpr_ap, dCBO_ap, iS_ap, iEnum_ap, iZpA_ap, iR1_ap, dSortSet_ap, dLRg_ap, dFn_ap, dFnO_ap, dIfO_ap, dBg_ap, dExt_ap, dIns_ap, dSortVals_ap, dTRg_ap, dDictZip_ap, iR2_ap, iTx_ap, iEnum2_ap, dAug_ap, dPar_ap, dBreak_ap, dCont_ap, dFor_ap, dLc_ap, dLcO_ap, dArgs, DAr.ev, arD, gOne_ap, gsNil_ap, gsCons_ap, gTup_ap, OC.data, Ar.sl, wipeE, List.map_cons, List.map_nil, List.replicate_succ, List.replicate_zero, List.cons_append, List.nil_append, List.length_cons, List.length_nil, Option.bind_some, Option.map_some, Option.bind_none, Option.map_none, List.getElem?_cons_zero, List.getElem?_cons_succ, List.set_cons_zero, List.set_cons_succ, Nat.reduceAdd, Nat.reduceSub, Nat.reduceLeDiff, Nat.reduceEqDiff, if_true, if_false, reduceIte, ite_true, ite_false, Nat.reduceMul, Int.reduceNeg, ite_run, bAnd_t, bAnd_f, bAnd_b, bOr_t, bOr_f, bOr_b, bIf_b, Bool.false_eq_true, Bool.not_true, Bool.not_false, Bool.true_and, Bool.false_and, Bool.and_true, Bool.and_false, Bool.true_or, Bool.false_or, Bool.or_true, Bool.or_false, rules_ok, doctrines_ok, gList_ok, al, gNot_bool]
      rw [if_pos (by decide)]
      exact .mk ok ⟨_, _, _, rfl⟩
    · subst he
      obtain ⟨us, B3, e3, perm, ok3⟩ := mixed_in (enc := ruD) (xs := rulesAll) ok2 (by decide)
      simp only [dSeq_ap, dIfS_ap, dAsg_ap, dRet_ap, dRetO_ap, dRetV_ap, dNil_ap, dNever_ap, dVar_ap, dC_ap, dBin_ap, dUn_ap, dAnd_ap, dOr_ap, dIf_ap, dCB_ap, dCall_ap, dPush_ap, dParX_ap, dParX3_ap, xD_ap, xO_ap, dCallO_ap, dFzF_ap, dFzE_ap, dFrz_ap, dIxO_ap, dLenO_ap, dOwn_ap, dOwnD_ap, dOwnE_ap, dPutO_ap, dSetD_ap, dGet2_ap, dSl_ap, oOf_ap, oNo_ap, dMeth_ap, dLstO_ap, dNewD_ap, dPeek_ap, dPeekO_ap, dChain_ap, dExpr_ap, dCBO_ap, iS_ap, iEnum_ap, iZpA_ap, iR1_ap, dSortSet_ap, dLRg_ap, dFn_ap, dFnO_ap, dIfO_ap, dBg_ap, dExt_ap, dIns_ap, dSortVals_ap, dTRg_ap, dDictZip_ap, iR2_ap, iTx_ap, iEnum2_ap, dAug_ap, dPar_ap, dBreak_ap, dCont_ap, dFor_ap, dLc_ap, dLcO_ap, dArgs, DAr.ev, arD, gOne_ap, gsNil_ap, gsCons_ap, gTup_ap, OC.data, Ar.sl, wipeE, List.map_cons, List.map_nil, List.replicate_succ, List.replicate_zero, List.cons_append, List.nil_append, List.length_cons, List.length_nil, Option.bind_some, Option.map_some, Option.bind_none, Option.map_none, List.getElem?_cons_zero, List.getElem?_cons_succ, List.set_cons_zero, List.set_cons_succ, Nat.reduceAdd, Nat.reduceSub, Nat.reduceLeDiff, Nat.reduceEqDiff, if_true, if_false, reduceIte, ite_true, ite_false, Nat.reduceMul, Int.reduceNeg, ite_run, bAnd_t, bAnd_f, bAnd_b, bOr_t, bOr_f, bOr_b, bIf_b, Bool.false_eq_true, Bool.not_true, Bool.not_false, Bool.true_and, Bool.false_and, Bool.and_true, Bool.and_false, Bool.true_or, Bool.false_or, Bool.or_true, Bool.or_false, e3]
      rw [Option.bind_assoc]
      refine Ends.for (fun k env => ∃ a b c d e f g, env = [.no, .bag, .sh (.list (rulesAll.map ruD)), .sh (.list (leastAll.map ruD)), a, b, c, d, e, f, .no, g]) ⟨_, _, _, _, _, _, _, rfl⟩ ok3 (fun k d env B hd hk ⟨a, b, c, d', e', f, g, he⟩ ok => ?_) fun env' B2 ⟨a, b, c, d', e', f, g, he⟩ ok2 => ?_
      · subst he
        obtain ⟨u, rfl, hu⟩ := perm_in perm hd
        refine ⟨_, rfl, ?_⟩
        have al := alike_ok rfl (fit_ru (least_in hu)) (by decide) (by decide) B
        have hd := doctrineOf_ok hu B
        have du : (if (u.1 == "drawn") = true then PyData.tuple [.str "drawn", .str "never"] else ruD u) = ruD (leastR u) := by
          unfold leastR
          cases (u.1 == "drawn") <;> rfl
        have nin := nin_ok hu
        obtain ⟨vs, B4, e4, perm4, ok4⟩ := mixed_in (enc := ruD) (xs := rulesAll) ok (by decide)
        have low : ∀ env : Env, (dIf (dBin gEqA (dBin gIxA (dVar 5) (dC (.int 0))) (dC (.str "drawn"))) (dCB gTuple [.e (dC (.str "drawn")), .e (dC (.str "never"))]) (dVar 5)) (.no :: .bag :: .sh (.list (rulesAll.map ruD)) :: .sh (.list (leastAll.map ruD)) :: a :: .sh (ruD u) :: env) B = some (ruD (leastR u), B) := fun env => by
          cases h : u.1 == "drawn" <;> rw [h] at du <;> simp only [Bool.false_eq_true, if_false, if_true] at du <;>
            simp only [dSeq_ap, dIfS_ap, dAsg_ap, dRet_ap, dRetO_ap, dRetV_ap, dNil_ap, dNever_ap, dVar_ap, dC_ap, dBin_ap, dUn_ap, dAnd_ap, dOr_ap, dIf_ap, dCB_ap, dCall_ap, dPush_ap, dParX_ap, dParX3_ap, xD_ap, xO_ap, dCallO_ap, dFzF_ap, dFzE_ap, dFrz_ap, dIxO_ap, dLenO_ap, dOwn_ap, dOwnD_ap, dOwnE_ap, dPutO_ap, dSetD_ap, dGet2_ap, dSl_ap, oOf_ap, oNo_ap, dMeth_ap, dLstO_ap, dNewD_ap, dPeek_ap, dPeekO_ap, dChain_ap, dExpr_ap, dCBO_ap, iS_ap, iEnum_ap, iZpA_ap, iR1_ap, dSortSet_ap, dLRg_ap, dFn_ap, dFnO_ap, dIfO_ap, dBg_ap, dExt_ap, dIns_ap, dSortVals_ap, dTRg_ap, dDictZip_ap, iR2_ap, iTx_ap, iEnum2_ap, dAug_ap, dPar_ap, dBreak_ap, dCont_ap, dFor_ap, dLc_ap, dLcO_ap, dArgs, DAr.ev, arD, gOne_ap, gsNil_ap, gsCons_ap, gTup_ap, OC.data, Ar.sl, wipeE, List.map_cons, List.map_nil, List.replicate_succ, List.replicate_zero, List.cons_append, List.nil_append, List.length_cons, List.length_nil, Option.bind_some, Option.map_some, Option.bind_none, Option.map_none, List.getElem?_cons_zero, List.getElem?_cons_succ, List.set_cons_zero, List.set_cons_succ, Nat.reduceAdd, Nat.reduceSub, Nat.reduceLeDiff, Nat.reduceEqDiff, if_true, if_false, reduceIte, ite_true, ite_false, Nat.reduceMul, Int.reduceNeg, ite_run, bAnd_t, bAnd_f, bAnd_b, bOr_t, bOr_f, bOr_b, bIf_b, Bool.false_eq_true, Bool.not_true, Bool.not_false, Bool.true_and, Bool.false_and, Bool.and_true, Bool.and_false, Bool.true_or, Bool.false_or, Bool.or_true, Bool.or_false, ru_0, eqA_str, h, gTuple_ok] <;> rw [du]
        simp only [dSeq_ap, dAsg_ap, gOne_ap, low, Option.bind_some, List.set_cons_zero, List.set_cons_succ]
        simp only [dSeq_ap, dIfS_ap, dAsg_ap, dRet_ap, dRetO_ap, dRetV_ap, dNil_ap, dNever_ap, dVar_ap, dC_ap, dBin_ap, dUn_ap, dAnd_ap, dOr_ap, dIf_ap, dCB_ap, dCall_ap, dPush_ap, dParX_ap, dParX3_ap, xD_ap, xO_ap, dCallO_ap, dFzF_ap, dFzE_ap, dFrz_ap, dIxO_ap, dLenO_ap, dOwn_ap, dOwnD_ap, dOwnE_ap, dPutO_ap, dSetD_ap, dGet2_ap, dSl_ap, oOf_ap, oNo_ap, dMeth_ap, dLstO_ap, dNewD_ap, dPeek_ap, dPeekO_ap, dChain_ap, dExpr_ap, dCBO_ap, iS_ap, iEnum_ap, iZpA_ap, iR1_ap, dSortSet_ap, dLRg_ap, dFn_ap, dFnO_ap, dIfO_ap, dBg_ap, dExt_ap, dIns_ap, dSortVals_ap, dTRg_ap, dDictZip_ap, iR2_ap, iTx_ap, iEnum2_ap, dAug_ap, dPar_ap, dBreak_ap, dCont_ap, dFor_ap, dLc_ap, dLcO_ap, dArgs, DAr.ev, arD, gOne_ap, gsNil_ap, gsCons_ap, gTup_ap, OC.data, Ar.sl, wipeE, List.map_cons, List.map_nil, List.replicate_succ, List.replicate_zero, List.cons_append, List.nil_append, List.length_cons, List.length_nil, Option.bind_some, Option.map_some, Option.bind_none, Option.map_none, List.getElem?_cons_zero, List.getElem?_cons_succ, List.set_cons_zero, List.set_cons_succ, Nat.reduceAdd, Nat.reduceSub, Nat.reduceLeDiff, Nat.reduceEqDiff, if_true, if_false, reduceIte, ite_true, ite_false, Nat.reduceMul, Int.reduceNeg, ite_run, bAnd_t, bAnd_f, bAnd_b, bOr_t, bOr_f, bOr_b, bIf_b, Bool.false_eq_true, Bool.not_true, Bool.not_false, Bool.true_and, Bool.false_and, Bool.and_true, Bool.and_false, Bool.true_or, Bool.false_or, Bool.or_true, Bool.or_false, hd, al, gNot_bool, doctrines_ok, nin, e4]
        refine NxB.for (fun env => ∃ a b c d e f, env = [.no, .bag, .sh (.list (rulesAll.map ruD)), .sh (.list (leastAll.map ruD)), a, .sh (ruD u), b, c, d, e, .no, f]) ⟨_, _, _, _, _, _, rfl⟩ ok4 (fun d env B hd ⟨a, b, c, d', e', f, he⟩ ok => ?_) fun env ⟨a, b, c, d', e', f, he⟩ => ⟨_, _, _, _, _, _, _, he⟩
        subst he
        obtain ⟨v, rfl, hv⟩ := perm_in perm4 hd
        have nu := rules_nm u hu
        have nv := rules_nm v hv
        have sm : sameB v u = sameB u v := by
          have all : ∀ u ∈ rulesAll, ∀ v ∈ rulesAll, sameB v u = sameB u v := by decide +kernel
          exact all u hu v hv
        have s2 : ∀ (x : Str), (x == "drawn") = (("drawn" : Str) == x) := fun x => Bool.beq_comm
        have fb : Fit 1 171 (.list [.bool (sameB u v), .bool (sameB u v)]) := fit_lst (k := 0) (n := 82) 2 (fun d hd => by
          simp only [List.mem_cons, List.not_mem_nil, or_false] at hd
          rcases hd with rfl | rfl <;> exact fit_bool _) (by simp)
        have al2 := alike_ok rfl fb (by decide) (by decide) B
        have so : (dOr (dBin gEqA (dVar 5) (dVar 9)) (dAnd (dBin gEqA (dBin gIxA (dVar 5) (dC (.int 0))) (dC (.str "drawn"))) (dBin gEqA (dBin gIxA (dVar 9) (dC (.int 0))) (dC (.str "drawn"))))) [.no, .bag, .sh (.list (rulesAll.map ruD)), .sh (.list (leastAll.map ruD)), a, .sh (ruD u), b, c, d', .sh (ruD v), .no, f] B = some (.bool (sameB u v), B) := by
          unfold sameB
          cases h1 : eqR u v <;> cases h2 : u.1 == "drawn" <;> simp only [dSeq_ap, dIfS_ap, dAsg_ap, dRet_ap, dRetO_ap, dRetV_ap, dNil_ap, dNever_ap, dVar_ap, dC_ap, dBin_ap, dUn_ap, dAnd_ap, dOr_ap, dIf_ap, dCB_ap, dCall_ap, dPush_ap, dParX_ap, dParX3_ap, xD_ap, xO_ap, dCallO_ap, dFzF_ap, dFzE_ap, dFrz_ap, dIxO_ap, dLenO_ap, dOwn_ap, dOwnD_ap, dOwnE_ap, dPutO_ap, dSetD_ap, dGet2_ap, dSl_ap, oOf_ap, oNo_ap, dMeth_ap, dLstO_ap, dNewD_ap, dPeek_ap, dPeekO_ap, dChain_ap, dExpr_ap, dCBO_ap, iS_ap, iEnum_ap, iZpA_ap, iR1_ap, dSortSet_ap, dLRg_ap, dFn_ap, dFnO_ap, dIfO_ap, dBg_ap, dExt_ap, dIns_ap, dSortVals_ap, dTRg_ap, dDictZip_ap, iR2_ap, iTx_ap, iEnum2_ap, dAug_ap, dPar_ap, dBreak_ap, dCont_ap, dFor_ap, dLc_ap, dLcO_ap, dArgs, DAr.ev, arD, gOne_ap, gsNil_ap, gsCons_ap, gTup_ap, OC.data, Ar.sl, wipeE, List.map_cons, List.map_nil, List.replicate_succ, List.replicate_zero, List.cons_append, List.nil_append, List.length_cons, List.length_nil, Option.bind_some, Option.map_some, Option.bind_none, Option.map_none, List.getElem?_cons_zero, List.getElem?_cons_succ, List.set_cons_zero, List.set_cons_succ, Nat.reduceAdd, Nat.reduceSub, Nat.reduceLeDiff, Nat.reduceEqDiff, if_true, if_false, reduceIte, ite_true, ite_false, Nat.reduceMul, Int.reduceNeg, ite_run, bAnd_t, bAnd_f, bAnd_b, bOr_t, bOr_f, bOr_b, bIf_b, Bool.false_eq_true, Bool.not_true, Bool.not_false, Bool.true_and, Bool.false_and, Bool.and_true, Bool.and_false, Bool.true_or, Bool.false_or, Bool.or_true, Bool.or_false, eqR_ok nu nv, h1, ru_0, eqA_str, h2, s2 v.1]
        refine ⟨_, rfl, ?_⟩
        simp only [dSeq_ap, dAsg_ap, gOne_ap, so, Option.bind_some, List.set_cons_zero, List.set_cons_succ]
        simp only [dSeq_ap, dIfS_ap, dAsg_ap, dRet_ap, dRetO_ap, dRetV_ap, dNil_ap, dNever_ap, dVar_ap, dC_ap, dBin_ap, dUn_ap, dAnd_ap, dOr_ap, dIf_ap, dCB_ap, dCall_ap, dPush_ap, dParX_ap, dParX3_ap, xD_ap, xO_ap, dCallO_ap, dFzF_ap, dFzE_ap, dFrz_ap, dIxO_ap, dLenO_ap, dOwn_ap, dOwnD_ap, dOwnE_ap, dPutO_ap, dSetD_ap, dGet2_ap, dSl_ap, oOf_ap, oNo_ap, dMeth_ap, dLstO_ap, dNewD_ap, dPeek_ap, dPeekO_ap, dChain_ap, dExpr_ap, dCBO_ap, iS_ap, iEnum_ap, iZpA_ap, iR1_ap, dSortSet_ap, dLRg_ap, dFn_ap, dFnO_ap, dIfO_ap, dBg_ap, dExt_ap, dIns_ap, dSortVals_ap, dTRg_ap, dDictZip_ap, iR2_ap, iTx_ap, iEnum2_ap, dAug_ap, dPar_ap, dBreak_ap, dCont_ap, dFor_ap, dLc_ap, dLcO_ap, dArgs, DAr.ev, arD, gOne_ap, gsNil_ap, gsCons_ap, gTup_ap, OC.data, Ar.sl, wipeE, List.map_cons, List.map_nil, List.replicate_succ, List.replicate_zero, List.cons_append, List.nil_append, List.length_cons, List.length_nil, Option.bind_some, Option.map_some, Option.bind_none, Option.map_none, List.getElem?_cons_zero, List.getElem?_cons_succ, List.set_cons_zero, List.set_cons_succ, Nat.reduceAdd, Nat.reduceSub, Nat.reduceLeDiff, Nat.reduceEqDiff, if_true, if_false, reduceIte, ite_true, ite_false, Nat.reduceMul, Int.reduceNeg, ite_run, bAnd_t, bAnd_f, bAnd_b, bOr_t, bOr_f, bOr_b, bIf_b, Bool.false_eq_true, Bool.not_true, Bool.not_false, Bool.true_and, Bool.false_and, Bool.and_true, Bool.and_false, Bool.true_or, Bool.false_or, Bool.or_true, Bool.or_false, same_ok nu nv, same_ok nv nu, sm, gList_ok, al2, gNot_bool]
        exact .mk ok ⟨_, _, _, _, _, _, rfl⟩
      · subst he
        simp only [dSeq_ap, dIfS_ap, dAsg_ap, dRet_ap, dRetO_ap, dRetV_ap, dNil_ap, dNever_ap, dVar_ap, dC_ap, dBin_ap, dUn_ap, dAnd_ap, dOr_ap, dIf_ap, dCB_ap, dCall_ap, dPush_ap, dParX_ap, dParX3_ap, xD_ap, xO_ap, dCallO_ap, dFzF_ap, dFzE_ap, dFrz_ap, dIxO_ap, dLenO_ap, dOwn_ap, dOwnD_ap, dOwnE_ap, dPutO_ap, dSetD_ap, dGet2_ap, dSl_ap, oOf_ap, oNo_ap, dMeth_ap, dLstO_ap, dNewD_ap, dPeek_ap, dPeekO_ap, dChain_ap, dExpr_ap, dCBO_ap, iS_ap, iEnum_ap, iZpA_ap, iR1_ap, dSortSet_ap, dLRg_ap, dFn_ap, dFnO_ap, dIfO_ap, dBg_ap, dExt_ap, dIns_ap, dSortVals_ap, dTRg_ap, dDictZip_ap, iR2_ap, iTx_ap, iEnum2_ap, dAug_ap, dPar_ap, dBreak_ap, dCont_ap, dFor_ap, dLc_ap, dLcO_ap, dArgs, DAr.ev, arD, gOne_ap, gsNil_ap, gsCons_ap, gTup_ap, OC.data, Ar.sl, wipeE, List.map_cons, List.map_nil, List.replicate_succ, List.replicate_zero, List.cons_append, List.nil_append, List.length_cons, List.length_nil, Option.bind_some, Option.map_some, Option.bind_none, Option.map_none, List.getElem?_cons_zero, List.getElem?_cons_succ, List.set_cons_zero, List.set_cons_succ, Nat.reduceAdd, Nat.reduceSub, Nat.reduceLeDiff, Nat.reduceEqDiff, if_true, if_false, reduceIte, ite_true, ite_false, Nat.reduceMul, Int.reduceNeg, ite_run, bAnd_t, bAnd_f, bAnd_b, bOr_t, bOr_f, bOr_b, bIf_b, Bool.false_eq_true, Bool.not_true, Bool.not_false, Bool.true_and, Bool.false_and, Bool.and_true, Bool.and_false, Bool.true_or, Bool.false_or, Bool.or_true, Bool.or_false]
        exact .mk ok2 rfl
  obtain ⟨d, B', e, _, rfl⟩ := h
  refine ⟨B', ?_⟩
  cases ho : d_law (.no :: .bag :: List.replicate 10 .no) (bag0 ns) with
  | none => rw [ho] at e; cases e
  | some o =>
    rw [ho] at e
    cases o with
    | rt d B => cases e; rfl
    | nx _ _ => cases e
    | ro _ _ => cases e
    | bk _ _ => cases e
    | ct _ _ => cases e


end Dl
open PySem PySem.W PyProof.Rows
set_option maxRecDepth 100000 in
set_option maxHeartbeats 0 in
theorem PySem.Challenge.cw_soundtitle_k18_rules_and_laws_holds : PySem.Challenge.rw_soundtitle_k18_rules_and_laws.Holds := by
  w_on; o_law; k_head; (case hw => w_witness2)
  k_fill
  refine Dl.walkG (k := 4) (l := PySem.Challenge.rw_soundtitle_k18_rules_and_laws) rfl rfl ⟨rfl, by decide, by decide⟩ (fun w h Y => PySem.W.kIn_of Y) ?F
  case F =>
    intro w mg fa h KX G hmg
    refine' Dl.all_mk Dl.law_val KX G hmg ?a0 ?l0 ?c0 ?k0 ?a1 ?l1 ?c1 ?k1 ?a2 ?l2 ?c2 ?k2 ?a3 ?l3 ?c3 ?k3 ?a4 ?l4 ?c4 ?k4 ?a5 ?l5 ?c5 ?k5 ?a6 ?l6 ?c6 ?k6 ?a7 ?l7 ?c7 ?k7 ?a8 ?l8 ?c8 ?k8 ?a9 ?l9 ?c9 ?k9 ?ga0 ?gb0 ?gc0 ?ga1 ?gb1 ?gc1 ?z_len ?z_abs ?z_range ?z_int ?z_max ?z_min ?z_sorted ?z_dict ?z_list ?z_tuple ?z_zip ?z_enumerate ?z_repr ?z_set ?z_isinstance ?z_str ?z_bool ?z_sum ?z_all ?z_any
    (case a0 => k_is); (case l0 => k_is); (case c0 => k_is); (case k0 => k_is)
    (case a1 => k_is); (case l1 => k_is); (case c1 => k_is); (case k1 => k_is)
    (case a2 => k_is); (case l2 => k_is); (case c2 => k_is); (case k2 => k_is)
    (case a3 => k_is); (case l3 => k_is); (case c3 => k_is); (case k3 => k_is)
    (case a4 => k_is); (case l4 => k_is); (case c4 => k_is); (case k4 => k_is)
    (case a5 => k_is); (case l5 => k_is); (case c5 => k_is); (case k5 => k_is)
    (case a6 => k_is); (case l6 => k_is); (case c6 => k_is); (case k6 => k_is)
    (case a7 => k_is); (case l7 => k_is); (case c7 => k_is); (case k7 => k_is)
    (case a8 => k_is); (case l8 => k_is); (case c8 => k_is); (case k8 => k_is)
    (case a9 => k_is); (case l9 => k_is); (case c9 => k_is); (case k9 => k_is)
    (case ga0 => k_is); (case gb0 => k_is); (case gc0 => rfl); (case ga1 => k_is)
    (case gb1 => k_is); (case gc1 => rfl); (case z_len => k_is); (case z_abs => k_is)
    (case z_range => k_is); (case z_int => k_is); (case z_max => k_is); (case z_min => k_is)
    (case z_sorted => k_is); (case z_dict => k_is); (case z_list => k_is); (case z_tuple => k_is)
    (case z_zip => k_is); (case z_enumerate => k_is); (case z_repr => k_is); (case z_set => k_is)
    (case z_isinstance => k_is); (case z_str => k_is); (case z_bool => k_is); (case z_sum => k_is)
    (case z_all => k_is); (case z_any => k_is)
